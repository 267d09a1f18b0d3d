import PyProof.Rows.All
import Wide.All
import OpenK.AllK
import Wide.FinOn
import Lean
import PyProof.EqAt
import PyProof.EqKinds
import PyProof.TupleCall
import KE.KTops
import KE.KIntText
import KE.KTryMore
import PyProof.ExcBaseAll.ValueError
import PyProof.Rows.SetFrom
import PyProof.Rows.SortStr
import PyProof.Rows.SortRunsK
import PyProof.CollectWalk
import PyProof.Rows.SortWalk
import PyProof.ZipIter
import KE.KTurns
import KE.KxText
import PyProof.Rows.SumGenD
import KE.KDictList
import PyProof.DictWalks
import KE.KEqDict
import KE.KDictOf
import PyProof.WalksEnum
import PyProof.DictItems
import Wide.Seal
import PyProof.P3Eq
import PySem.Challenge.RW_madeagain_k03_what_is_a_house
set_option Elab.async false
set_option linter.all false
set_option maxRecDepth 100000
/-! THE HAND LAYER, for ints, bools, texts, own classes, LISTS and tuples (index, slices, in, append, pop ..), calls, loops. Paste it whole ahead of your own text; what your proof does not reach may be deleted. -/
namespace L2
open PySem PySem.Spec PyProof.Rows

/-- a key: an int or a str -/
noncomputable abbrev Key := Sum Int Str
noncomputable def keyIs : Key → Value → Bool
  | .inl k, v => Value.isInt k v
  | .inr x, v => Value.isStrOf x v
noncomputable def keyH (w : World) : Key → Int
  | .inl k => hashInt k
  | .inr x => hashStr w x
theorem keyIs_shape : ∀ {k : Key} {v : Value}, keyIs k v = true → (∃ i t, k = Sum.inl i ∧ v = Value.int i t) ∨ (∃ x t, k = Sum.inr x ∧ v = Value.str x t)
  | .inl i, v, h => by
    obtain ⟨t, e⟩ := Value.isInt_shape (k := i) (v := v) h
    exact .inl ⟨i, t, rfl, e⟩
  | .inr x, v, h => by
    obtain ⟨t, e⟩ := Value.isStrOf_shape (x := x) (v := v) h
    exact .inr ⟨x, t, rfl, e⟩
theorem keyIs_int (i : Int) (t : Tok) : keyIs (.inl i) (.int i t) = true := by simp [keyIs, Value.isInt]
theorem keyIs_str (x : Str) (t : Tok) : keyIs (.inr x) (.str x t) = true := by simp [keyIs, Value.isStrOf]
theorem key_ll (a b : Int) : decide ((Sum.inl a : Key) = Sum.inl b) = (a == b) := by
  by_cases e : a = b
  · subst e; simp
  · have h : ¬ (Sum.inl a : Key) = Sum.inl b := fun q => e (Sum.inl.inj q)
    rw [decide_eq_false h]
    exact (beq_eq_false_iff_ne.mpr e).symm
theorem key_rr (a b : Str) : decide ((Sum.inr a : Key) = Sum.inr b) = decide (a = b) := by
  by_cases e : a = b
  · subst e; simp
  · have h : ¬ (Sum.inr a : Key) = Sum.inr b := fun q => e (Sum.inr.inj q)
    rw [decide_eq_false h, decide_eq_false e]
theorem key_lr (a : Int) (b : Str) : decide ((Sum.inl a : Key) = Sum.inr b) = false := decide_eq_false (fun q => nomatch q)
theorem key_rl (a : Str) (b : Int) : decide ((Sum.inr a : Key) = Sum.inl b) = false := decide_eq_false (fun q => nomatch q)

noncomputable def mixKind (prog : Program) (w : World) : PySem.KeyKind prog w Key where
  is := keyIs
  hash := keyH w
  inj := fun v a b ha hb => by
    rcases keyIs_shape ha with ⟨i, t, rfl, rfl⟩ | ⟨x, t, rfl, rfl⟩
    · rcases keyIs_shape hb with ⟨j, u, rfl, e⟩ | ⟨y, u, rfl, e⟩
      · injection e with e1 _; rw [e1]
      · exact nomatch e
    · rcases keyIs_shape hb with ⟨j, u, rfl, e⟩ | ⟨y, u, rfl, e⟩
      · exact nomatch e
      · injection e with e1 _; rw [e1]
  byValue := fun k v h => by
    rcases keyIs_shape h with ⟨i, t, rfl, rfl⟩ | ⟨x, t, rfl, rfl⟩ <;> rfl
  pyHash := fun hv h => by
    rcases keyIs_shape hv with ⟨i, t, rfl, rfl⟩ | ⟨x, t, rfl, rfl⟩
    · exact wpAny_pyHash_int h
    · exact wpAny_pyHash_str h
  eqBool := fun hu hv h => by
    rcases keyIs_shape hu with ⟨i, t, rfl, rfl⟩ | ⟨x, t, rfl, rfl⟩
    · rcases keyIs_shape hv with ⟨j, u, rfl, rfl⟩ | ⟨y, u, rfl, rfl⟩
      · rw [key_ll] at h; exact wpAny_eqBool_int h
      · rw [key_lr] at h; exact SeqAt.EqAt.int_str i t y u _ _ _ _ h
    · rcases keyIs_shape hv with ⟨j, u, rfl, rfl⟩ | ⟨y, u, rfl, rfl⟩
      · rw [key_rl] at h; exact SeqAt.EqAt.str_int x t j u _ _ _ _ h
      · rw [key_rr] at h; exact wpAny_eqBool_str h
  «strs» := fun k x t v h => by
    rcases keyIs_shape h with ⟨i, u, rfl, e⟩ | ⟨y, u, rfl, e⟩
    · exact nomatch e
    · injection e with e1 _
      subst e1
      cases v <;> rfl

theorem mixKind_is (prog : Program) (w : World) (k : Key) (v : Value) : (mixKind prog w).is k v = keyIs k v := rfl
theorem mixKind_int (prog : Program) (w : World) (i : Int) (t : Tok) : (mixKind prog w).is (.inl i) (.int i t) = true := keyIs_int i t
theorem mixKind_str (prog : Program) (w : World) (x : Str) (t : Tok) : (mixKind prog w).is (.inr x) (.str x t) = true := keyIs_str x t
end L2

namespace L2
open PySem PySem.Spec PyProof.Rows

/-- a value, without the heap -/
inductive V where
  | non | bl (b : Bool) | int (i : Int) | str (x : Str) | byt (b : Array UInt8) | flt (b : UInt64) | ref (a : Addr) | ty (n : String)
  deriving DecidableEq

noncomputable def RelV : V → Value → Prop
  | .non, u => u = Value.none
  | .bl b, u => u = Value.bool b
  | .int i, u => ∃ t, u = Value.int i t
  | .str x, u => ∃ t, u = Value.str x t
  | .byt b, u => ∃ t, u = Value.bytes b t
  | .flt b, u => ∃ t, u = Value.float b t
  | .ref a, u => u = Value.ref a
  | .ty n, u => u = Value.type n

noncomputable abbrev Vals : List V → List Value → Prop := Paired RelV
theorem Vals.length {xs : List V} {us : List Value} (r : Vals xs us) : xs.length = us.length := Paired.length r
theorem Vals.get : ∀ {xs : List V} {us : List Value} {i : Nat} {x : V}, Vals xs us → xs[i]? = some x → ∃ u, us[i]? = some u ∧ RelV x u
  | _, _, _, _, .nil, e => by simp at e
  | _, _, 0, _, .cons r _, e => by simp at e; subst e; exact ⟨_, rfl, r⟩
  | _, _, i + 1, x, .cons _ t, e => by
    obtain ⟨u, h1, h2⟩ := Vals.get (i := i) (x := x) t (by simpa using e)
    exact ⟨u, by simpa using h1, h2⟩
theorem Vals.set {x : V} {u : Value} (r : RelV x u) : ∀ {xs : List V} {us : List Value} (i : Nat), Vals xs us → Vals (xs.set i x) (us.set i u)
  | _, _, _, .nil => .nil
  | _, _, 0, .cons _ t => .cons r t
  | _, _, i + 1, .cons q t => .cons q (Vals.set r i t)
theorem Vals.append : ∀ {xs ys : List V} {us ws : List Value}, Vals xs us → Vals ys ws → Vals (xs ++ ys) (us ++ ws)
  | _, _, _, _, .nil, s => s
  | _, _, _, _, .cons r t, s => .cons r (Vals.append t s)
theorem Vals.take : ∀ {xs : List V} {us : List Value} (n : Nat), Vals xs us → Vals (xs.take n) (us.take n)
  | _, _, 0, _ => .nil
  | _, _, _ + 1, .nil => .nil
  | _, _, n + 1, .cons r t => .cons r (Vals.take n t)
theorem Vals.drop : ∀ {xs : List V} {us : List Value} (n : Nat), Vals xs us → Vals (xs.drop n) (us.drop n)
  | _, _, 0, r => r
  | _, _, _ + 1, .nil => .nil
  | _, _, n + 1, .cons _ t => Vals.drop n t

noncomputable def RelO : Option V → Option Value → Prop
  | some v, some u => RelV v u
  | none, none => True
  | _, _ => False
noncomputable def KV {κ : Type} : List (κ × V) → List (κ × Value) → Prop := Paired fun (p : κ × V) (q : κ × Value) => p.1 = q.1 ∧ RelV p.2 q.2

/-- a key of a dict (00_mix): an int or a text -/
noncomputable def kV : Key → V
  | .inl i => .int i
  | .inr x => .str x

/-- what stands at a tracked address -/
inductive HO where
  /-- a list -/
  | lst (xs : List V)
  /-- a tuple (never changes) -/
  | tup (xs : List V)
  /-- a dict whose keys are ints and texts; one whose keys are tuples of ints and texts (the empty one is both) -/
  | dK (kvs : List (Key × V)) | dT (kvs : List (List Key × V))
  /-- a set of ints: its members, its size -/
  | set (S : Int → Bool) (n : Nat)
  /-- an instance of the class at C, its dict at dx, its attributes -/
  | ins (C dx : Addr) (fs : List (Str × V))
  /-- the dict of the instance at x -/
  | own (x : Addr)
  /-- the dict of an exception -/
  | xd (fs : List (Str × V))
  /-- a bound method, f of x -/
  | met (f x : Addr)
  /-- a range object lo, lo + 1, .. below hi -/
  | rng (lo hi : Int)
  /-- a thing that is known to the object (the script; a dict while a loop walks it): read, never written while it is so -/
  | frz (o : Obj) (u : HO)
  /-- a code object's table -/
  | tbl (ps : Array Value)
  /-- any other thing, by what is true of its one object (a def of one's own: SetO a S n := HO.ext fun h => ..) -/
  | ext (φ : Heap → Prop)

noncomputable abbrev Hp := Addr → Option HO
noncomputable def upd (H : Hp) (a : Addr) (o : HO) : Hp := fun b => if b = a then some o else H b
theorem upd_same {H : Hp} {a : Addr} {o : HO} : upd H a o a = some o := by unfold upd; rw [if_pos rfl]
theorem upd_ne {H : Hp} {a b : Addr} {o : HO} (h : b ≠ a) : upd H a o b = H b := by unfold upd; rw [if_neg h]
/-- two objects of different content stand apart -/
theorem ne_of {H : Hp} {a b : Addr} {o u : HO} (h : H a = some o) (h' : H b = some u) (d : o ≠ u) : a ≠ b := by
  intro e; subst e; rw [h] at h'; exact d (Option.some.inj h')
theorem ne_of_none {H : Hp} {a b : Addr} {o : HO} (h : H a = some o) (h' : H b = none) : a ≠ b := by
  intro e; subst e; rw [h] at h'; cases h'

section
variable (P : Program) (w : World)
noncomputable def ObjOk (H : Hp) (h : Heap) (a : Addr) : HO → Prop
  | .lst xs => xs.length ≤ sizeLine ∧ ∃ (its : List Value) (n : Nat), Vals xs its ∧ h.get? a = some { cls := .type "list", data := .seq its.toArray n }
  | .tup xs => xs.length ≤ sizeLine ∧ ∃ its : List Value, Vals xs its ∧ IsTup h a its.toArray
  | .dK kvs => kvs.length ≤ sizeLine ∧ (a == sysModules) = false ∧ ∃ vs, KV kvs vs ∧ h.DictOf (mixKind P w) a vs
  | .dT kvs => kvs.length ≤ sizeLine ∧ (a == sysModules) = false ∧ ∃ xs : List (List Key × Addr × Value),
      Paired (fun (p : List Key × V) (q : List Key × Addr × Value) => p.1 = q.1 ∧ H q.2.1 = some (.tup (p.1.map kV)) ∧ RelV p.2 q.2.2) kvs xs ∧
      ∃ o es ep, h.get? a = some o ∧ o.ExactDict ∧ o.data = .dict es ep ∧ es.toList = xs.map (entryOfKey (tupleKind (mixKind P w))) ∧ (xs.map (·.1)).Nodup
  | .set S n => h.SetOf (intKind P w) a S n
  | .ins C dx fs => H dx = some (.own a) ∧ fs.length ≤ 1000 ∧ dx ≠ a ∧ h.get? a = some (PySem.W.instObj C dx) ∧
      ∃ mA, h.Ns1 dx mA ∧ (∀ f, RelO (fs.lookup f) (mA f)) ∧ PySem.Within mA (fs.map (·.1))
  | .own _ => ∃ o, h.get? a = some o
  | .xd fs => ∃ mA, h.Ns1 a mA ∧ ∀ f, RelO (fs.lookup f) (mA f)
  | .rng lo hi => ∃ t u v, h.get? a = some { cls := .type "range", data := .fields #[.int lo t, .int hi u, .int 1 v] }
  | .frz o u => h.get? a = some o ∧ ObjOk H h a u
  | .tbl ps => h.get? a = some { cls := .none, data := .fields ps }
  | .met f x => h.get? a = some (PySem.W.methodObj (.ref f) (.ref x))
  | .ext φ => φ h ∧ (∃ o, h.get? a = some o) ∧ ∀ h1 h2 : Heap, φ h1 → (∀ o, h1.get? a = some o → h2.get? a = some o) → φ h2
/-- the abstract heap is held -/
noncomputable def HOk (H : Hp) (h : Heap) : Prop := ∀ a o, H a = some o → ObjOk P w H h a o
end

section
variable {P : Program} {w : World} {H H' : Hp} {h h' : Heap} {a : Addr} {o : HO}
theorem ObjOk.lt (x : ObjOk P w H h a o) : a < h.objs.size := by
  cases o with
  | lst xs => obtain ⟨_, _, _, _, e⟩ := x; exact Heap.lt_size e
  | tup xs => obtain ⟨_, _, _, p⟩ := x; exact p.lt
  | dK kvs => obtain ⟨_, _, _, _, o, _, _, e, _⟩ := x; exact Heap.lt_size e
  | dT kvs => obtain ⟨_, _, _, _, o, _, _, e, _⟩ := x; exact Heap.lt_size e
  | set S n => obtain ⟨o, _, _, _, e, _⟩ := x; exact Heap.lt_size e
  | ins C dx fs => obtain ⟨_, _, _, e, _⟩ := x; exact Heap.lt_size e
  | own y => obtain ⟨_, e⟩ := x; exact Heap.lt_size e
  | xd fs => obtain ⟨_, ⟨_, _, _, e, _⟩, _⟩ := x; exact Heap.lt_size e
  | rng lo hi => obtain ⟨_, _, _, e⟩ := x; exact Heap.lt_size e
  | frz ob u => obtain ⟨e, _⟩ := x; exact Heap.lt_size e
  | tbl ps => exact Heap.lt_size (show h.get? a = some _ from x)
  | met f y => exact Heap.lt_size (show h.get? a = some _ from x)
  | ext φ => obtain ⟨_, ⟨_, e⟩, _⟩ := x; exact Heap.lt_size e
theorem Paired.mapP {α β : Type} {F G : α → β → Prop} : ∀ {l₁ : List α} {l₂ : List β}, Paired F l₁ l₂ → (∀ a b, F a b → G a b) → Paired G l₁ l₂
  | _, _, .nil, _ => .nil
  | _, _, .cons r t, f => .cons (f _ _ r) (Paired.mapP t f)
theorem Paired.imp' {α β : Type} {F G : α → β → Prop} (f : ∀ a b, F a b → G a b) {l₁ : List α} {l₂ : List β} (r : Paired F l₁ l₂) : Paired G l₁ l₂ := Paired.mapP r f
/-- what an object's description leans on: its own object, its own dict, the tuples -/
theorem ObjOk.stay (x : ObjOk P w H h a o) (k : ∀ b u, (b = a ∨ H b = some (.own a)) → h.get? b = some u → h'.get? b = some u)
    (ho : ∀ b, H b = some (.own a) → H' b = some (.own a)) (ht : ∀ b xs, H b = some (.tup xs) → H' b = some (.tup xs)) : ObjOk P w H' h' a o := by
  induction o with
  | lst xs => obtain ⟨z, its, n, r, e⟩ := x; exact ⟨z, its, n, r, k _ _ (.inl rfl) e⟩
  | tup xs => obtain ⟨z, its, r, ob, e, c⟩ := x; exact ⟨z, its, r, ob, k _ _ (.inl rfl) e, c⟩
  | dK kvs => obtain ⟨z, y, vs, r, ob, es, ep, e, c⟩ := x; exact ⟨z, y, vs, r, ob, es, ep, k _ _ (.inl rfl) e, c⟩
  | dT kvs =>
    obtain ⟨z, y, xs, r, ob, es, ep, e, c⟩ := x
    exact ⟨z, y, xs, Paired.mapP r fun p q z => ⟨z.1, ht _ _ z.2.1, z.2.2⟩, ob, es, ep, k _ _ (.inl rfl) e, c⟩
  | set S n => obtain ⟨ob, es, ep, t, e, c⟩ := x; exact ⟨ob, es, ep, t, k _ _ (.inl rfl) e, c⟩
  | ins C dx fs =>
    obtain ⟨d, z, ne, e, mA, ⟨od, es, ep, e2, c⟩, r⟩ := x
    exact ⟨ho _ d, z, ne, k _ _ (.inl rfl) e, mA, ⟨od, es, ep, k _ _ (.inr d) e2, c⟩, r⟩
  | own y => obtain ⟨ob, e⟩ := x; exact ⟨ob, k _ _ (.inl rfl) e⟩
  | xd fs => obtain ⟨mA, ⟨od, es, ep, e, c⟩, r⟩ := x; exact ⟨mA, ⟨od, es, ep, k _ _ (.inl rfl) e, c⟩, r⟩
  | rng lo hi => obtain ⟨t, u, v, e⟩ := x; exact ⟨t, u, v, k _ _ (.inl rfl) e⟩
  | frz ob u ih => obtain ⟨e, q⟩ := x; exact ⟨k _ _ (.inl rfl) e, ih q⟩
  | tbl ps =>
    have e : h.get? a = some { cls := .none, data := .fields ps } := x
    show h'.get? a = some { cls := .none, data := .fields ps }
    exact k a _ (.inl rfl) e
  | met f y =>
    have e : h.get? a = some (PySem.W.methodObj (.ref f) (.ref y)) := x
    show h'.get? a = some (PySem.W.methodObj (.ref f) (.ref y))
    exact k a _ (.inl rfl) e
  | ext φ => obtain ⟨p, ⟨o, e⟩, st⟩ := x; exact ⟨st _ _ p fun o q => k _ _ (.inl rfl) q, ⟨o, k _ _ (.inl rfl) e⟩, st⟩
theorem HOk.lt (x : HOk P w H h) (e : H a = some o) : a < h.objs.size := (x a o e).lt
theorem HOk.fresh (x : HOk P w H h) (e : h.objs.size ≤ a) : H a = none := by
  cases q : H a with
  | none => rfl
  | some u => exact absurd (Nat.lt_of_lt_of_le (x.lt q) e) (Nat.lt_irrefl _)
/-- every object of the heap is kept -/
theorem HOk.kept (x : HOk P w H h) (k : ∀ b u, h.get? b = some u → h'.get? b = some u) : HOk P w H h' := fun a o e =>
  (x a o e).stay (fun b u _ q => k b u q) (fun _ q => q) fun _ _ q => q
/-- a new object is laid and tracked -/
theorem HOk.laid (x : HOk P w H h) (k : ∀ b u, h.get? b = some u → h'.get? b = some u) (hp : h.objs.size ≤ a) (new : ObjOk P w (upd H a o) h' a o) : HOk P w (upd H a o) h' := fun b u e => by
  have hn := x.fresh hp
  by_cases hb : b = a
  · subst hb; rw [upd_same] at e; cases e; exact new
  · rw [upd_ne hb] at e
    exact (x b u e).stay (fun c v _ q => k c v q) (fun c q => by rw [upd_ne (ne_of_none q hn)]; exact q) fun c xs q => by rw [upd_ne (ne_of_none q hn)]; exact q
end

/-- what may be read as u: it is u, or a known u -/
noncomputable def Rd (H : Hp) (a : Addr) (u : HO) : Prop := H a = some u ∨ ∃ o, H a = some (.frz o u)
theorem Rd.ok {P : Program} {w : World} {H : Hp} {h : Heap} {a : Addr} {u : HO} (r : Rd H a u) (x : HOk P w H h) : ObjOk P w H h a u := by
  rcases r with r | ⟨o, r⟩
  · exact x a u r
  · obtain ⟨_, q⟩ := x a _ r
    exact q
/-- what may be written -/
noncomputable def Mut : Option HO → Prop
  | some (.lst _) => True
  | some (.dK _) => True
  | some (.dT _) => True
  | some (.set _ _) => True
  | some (.ins _ _ _) => True
  | some (.ext _) => True
  | _ => False
section
variable {P : Program} {w : World} {H : Hp} {h h' : Heap} {x e : Addr} {o' : HO}
/-- the object at e is changed: x itself, or the dict of the instance x -/
theorem HOk.write (ok : HOk P w H h) (mu : Mut (H x)) (he : e = x ∨ H e = some (.own x)) (k : ∀ b u, b ≠ e → h.get? b = some u → h'.get? b = some u) (heo : ∃ u, h'.get? e = some u)
    (new : ObjOk P w (upd H x o') h' x o') : HOk P w (upd H x o') h' := fun b u q => by
  have nown : ∀ c y, H c = some (.own y) → c ≠ x := fun c y r z => by subst z; rw [r] at mu; exact mu
  have ntup : ∀ c xs, H c = some (.tup xs) → c ≠ x := fun c xs r z => by subst z; rw [r] at mu; exact mu
  by_cases hb : b = x
  · subst hb; rw [upd_same] at q; cases q; exact new
  · rw [upd_ne hb] at q
    by_cases hbe : b = e
    · have q' : H b = some (.own x) := by
        rcases he with z | z
        · exact absurd (hbe.trans z) hb
        · rw [hbe]; exact z
      rw [q] at q'; cases q'
      obtain ⟨v, hv⟩ := heo
      exact ⟨v, by rw [hbe]; exact hv⟩
    · refine (ok b u q).stay (fun c v hc r => k c v ?_ r) (fun c r => by rw [upd_ne (nown c b r)]; exact r) fun c xs r => by rw [upd_ne (ntup c xs r)]; exact r
      rcases hc with rfl | hc
      · exact hbe
      · rintro rfl
        rcases he with z | z
        · exact nown c b hc z
        · rw [hc] at z; cases z; exact hb rfl
end

/-! ### kept unless tracked; of the frames at fs (the callers') the slots may change (an exception that passes writes there); of the records at ex (iterators) nothing is said -/
structure Un (fs ex : List Addr) (H H' : Hp) (h h' : Heap) : Prop where
  keep : ∀ b o, h.get? b = some o → H b = none → b ∉ fs → b ∉ ex → h'.get? b = some o
  slot : ∀ b o, h.get? b = some o → H b = none → b ∈ fs → b ∉ ex → ∃ sl, h'.get? b = some { o with slots := sl }
  free : ∀ b o, h.get? b = some o → H b = none → b ∉ ex → H' b = none
  there : ∀ b o, h.get? b = some o → b ∉ ex → ∃ o', h'.get? b = some o'
  tups : ∀ b xs, H b = some (.tup xs) → H' b = some (.tup xs)
  frzs : ∀ b o u, H b = some (.frz o u) → H' b = some (.frz o u)
  tbls : ∀ b ps, H b = some (.tbl ps) → ∃ more, H' b = some (.tbl (ps ++ more))
section
variable {fs fs' ex ex' : List Addr} {H H1 H2 : Hp} {h h1 h2 h' : Heap} {a x e : Addr} {o : HO}
theorem Un.any (u : Un fs ex H H1 h h1) {b : Addr} {ob : Obj} (q : h.get? b = some ob) (n : H b = none) (hx : b ∉ ex) : ∃ sl, h1.get? b = some { ob with slots := sl } := by
  by_cases hb : b ∈ fs
  · exact u.slot b ob q n hb hx
  · exact ⟨ob.slots, u.keep b ob q n hb hx⟩
theorem Un.kept (k : ∀ b u, h.get? b = some u → h'.get? b = some u) : Un fs ex H H h h' :=
  ⟨fun b ob q _ _ _ => k b ob q, fun b ob q _ _ _ => ⟨ob.slots, k b ob q⟩, fun _ _ _ n _ => n, fun b ob q _ => ⟨ob, k b ob q⟩, fun _ _ q => q, fun _ _ _ q => q, fun _ ps q => ⟨#[], by rw [q]; simp⟩⟩
theorem Un.refl : Un fs ex H H h h := Un.kept fun _ _ q => q
theorem Un.laid (k : ∀ b u, h.get? b = some u → h'.get? b = some u) (hp : h.objs.size ≤ a) (hn : H a = none) : Un fs ex H (upd H a o) h h' where
  keep := fun b u q _ _ _ => k b u q
  slot := fun b u q _ _ _ => ⟨u.slots, k b u q⟩
  free := fun b u q n _ => by rw [upd_ne (Nat.ne_of_lt (Nat.lt_of_lt_of_le (Heap.lt_size q) hp))]; exact n
  there := fun b u q _ => ⟨u, k b u q⟩
  tups := fun b xs q => by rw [upd_ne (ne_of_none q hn)]; exact q
  frzs := fun b u xs q => by rw [upd_ne (ne_of_none q hn)]; exact q
  tbls := fun b ps q => ⟨#[], by rw [upd_ne (ne_of_none q hn), q]; simp⟩
theorem Un.write (mu : Mut (H x)) (he : e = x ∨ H e = some (.own x)) (k : ∀ b u, b ≠ e → h.get? b = some u → h'.get? b = some u) (heo : ∃ u, h'.get? e = some u) : Un fs ex H (upd H x o) h h' := by
  have hx : ∀ b, H b = none → b ≠ x := fun b n z => by subst z; rw [n] at mu; exact mu
  have hb : ∀ b, H b = none → b ≠ e := fun b n z => by
    subst z
    rcases he with r | r
    · exact hx b n r
    · rw [n] at r; cases r
  have hm : ∀ b u, H b = some u → ¬ Mut (some u) → b ≠ x := fun b u q nm z => by subst z; rw [q] at mu; exact nm mu
  refine ⟨fun b u q n _ _ => k b u (hb b n) q, fun b u q n _ _ => ⟨u.slots, k b u (hb b n) q⟩, fun b u q n _ => by rw [upd_ne (hx b n)]; exact n, fun b u q _ => ?_,
    fun b xs q => by rw [upd_ne (hm b _ q fun z => z)]; exact q, fun b u xs q => by rw [upd_ne (hm b _ q fun z => z)]; exact q, fun b ps q => ⟨#[], by rw [upd_ne (hm b _ q fun z => z), q]; simp⟩⟩
  by_cases hbe : b = e
  · subst hbe; exact heo
  · exact ⟨u, k b u hbe q⟩
end

/-! ### the heap without what is tracked -/
noncomputable def trk (h : Heap) (H : Hp) : List Addr := (List.range h.objs.size).filter fun a => (H a).isSome
noncomputable def hidT (h : Heap) (H : Hp) : Heap := PySem.W.hideAll h (trk h H)
theorem hidT_size (h : Heap) (H : Hp) : (hidT h H).objs.size = h.objs.size := PySem.W.hideAll_size _ _
theorem hidT_get {h : Heap} {H : Hp} {b : Addr} {o : Obj} (e : h.get? b = some o) (n : H b = none) : (hidT h H).get? b = some o :=
  PySem.W.hideAll_get _ e fun hm => by
    have q : (H b).isSome = true := (List.mem_filter.mp hm).2
    rw [n] at q; simp at q
theorem of_hidT {h : Heap} {H : Hp} {b : Addr} {o : Obj} (e : (hidT h H).get? b = some o) : h.get? b = some o ∧ H b = none := by
  have e' : h.get? b = some o := PySem.W.of_hideAll (trk h H) e
  refine ⟨e', ?_⟩
  cases q : H b with
  | none => rfl
  | some x =>
    have hm : b ∈ trk h H := List.mem_filter.mpr ⟨List.mem_range.mpr (Heap.lt_size e'), by simp [q]⟩
    have z : (hidT h H).get? b = none := PySem.W.hideAll_none (trk h H) hm
    rw [z] at e; cases e

/-! ### OpenK's ledger, filled with every new object but one -/
end L2

namespace L2
open PySem PySem.Spec PyProof.Rows

/-- the module's facts, over the base: the heap at the law's entry without what is tracked there -/
structure Mod (K : PySem.W.Frag) (mg : Str → Option Value) (base : Heap) : Prop where
  kin : K.In base
  glob : base.Ns mainGlobals mg
  blt : ∃ mb, base.Ns builtinsNs mb ∧ ∀ x : Str, x ≠ "__name__" → mb x = bootBuiltins x
  nolimit : base.NoLimit

/-- the context: a def's body (or a comprehension's block) running. base: fixed through the whole law; s₀, H₀: the entry; outer: the frames whose slots others may change (a def's callers); stack: all frames that run;
   ex: iterators that were made ahead of the entry and are walked here (a comprehension's); fn: the names whose cells were made at the entry (a def: all; a comprehension's block: its own); calm: not within an except suite; pn: pins that every state bears; xe: what is wanted of an exception that leaves the code -/
structure Cx where
  prog : Program
  w : World
  K : PySem.W.Frag
  mg : Str → Option Value
  base : Heap
  A : Around
  N : List Str
  s₀ : Shared
  H₀ : Hp
  env : Env
  outer : List Env
  stack : List Env
  ex : List Addr
  fn : Str → Bool
  calm : Bool
  pn : List (Addr × Obj)
  xe : Value → Shared → Prop
/-- the callers' frames -/
noncomputable def frs (l : List Env) : List Addr := l.filterMap (·.frame)
noncomputable abbrev Cx.fs (X : Cx) : List Addr := frs X.outer

noncomputable def Vis (sc : Scope) (x : Str) : Prop := sc.names.lookup x = some .local ∨ sc.names.lookup x = some .cell ∨ sc.names.lookup x = some .free
noncomputable def Loc (sc : Scope) (x : Str) : Prop := sc.names.lookup x = some .local ∨ sc.names.lookup x = some .cell
noncomputable def Look (env : Env) (h : Heap) (m : Str → Option Value) (x : Str) (u : Value) : Prop :=
  (env.kindOf x = some .local ∧ m x = some u) ∨ ((env.kindOf x = some .cell ∨ env.kindOf x = some .free) ∧ ∃ c, env.cells.lookup x = some c ∧ h.IsCell c (some u))

structure Cx.Ok (X : Cx) : Prop where
  mod : Mod X.K X.mg X.base
  kind : X.env.scope.kind = .function
  glob : X.env.globals = mainGlobals
  blt : X.env.builtins = builtinsNs
  above : X.s₀.heap.objs.size ≤ X.env.locals
  inj : ∀ x y c, X.env.cells.lookup x = some c → X.env.cells.lookup y = some c → x = y
  has : ∀ x, (X.env.kindOf x = some .cell ∨ X.env.kindOf x = some .free) → ∃ c, X.env.cells.lookup x = some c
  cab : ∀ x c, X.fn x = true → X.env.cells.lookup x = some c → X.s₀.heap.objs.size ≤ c
  hd : X.calm = true → X.A.handled = none
  frames : X.A.frames = some X.stack
  stk : X.stack = X.outer ∨ (X.stack = X.env :: X.outer ∧ X.env.frame = some X.env.locals)
  exf : ∀ b ∈ X.ex, b ≠ X.env.locals ∧ ∀ x c, X.env.cells.lookup x = some c → c ≠ b
  bs : ∀ b o, X.base.get? b = some o → X.s₀.heap.get? b = some o ∧ X.H₀ b = none
  bsz : X.base.objs.size ≤ X.s₀.heap.objs.size
  noex : ∀ b o, X.base.get? b = some o → b ∉ X.ex
  exfs : ∀ b ∈ X.ex, b ∉ X.fs
  funs : X.s₀.heap.FunFrames X.base X.outer
  frf : ∀ b ∈ X.fs, X.H₀ b = none

structure Inv (X : Cx) (pins : List (Addr × Obj)) (σ : List (Option V)) (H : Hp) (s : Shared) : Prop where
  ok : X.Ok
  os : s.os = X.s₀.os
  bare : AllBare s.gens
  base : Un X.fs X.ex X.H₀ H X.s₀.heap s.heap
  loc : ∃ m, s.heap.Ns X.env.locals m ∧ ∀ (i : Nat) (x : Str) (v : V), X.N[i]? = some x → σ[i]? = some (some v) → Vis X.env.scope x → ∃ u, RelV v u ∧ Look X.env s.heap m x u
  cell : ∀ x c, X.env.cells.lookup x = some c → ∃ v, s.heap.IsCell c v
  free : H X.env.locals = none
  freeC : ∀ x c, X.env.cells.lookup x = some c → H c = none
  pin : ∀ p ∈ X.pn ++ pins, s.heap.get? p.1 = some p.2 ∧ H p.1 = none ∧ p.1 ≠ X.env.locals ∧ p.1 ∉ X.fs ∧ ∀ v, p.2.data ≠ .cell v
  hok : HOk X.prog X.w H s.heap
  len : σ.length = X.N.length

section
variable {X : Cx} {pins : List (Addr × Obj)} {σ : List (Option V)} {H H' : Hp} {s : Shared} {h' : Heap}

theorem Cx.Ok.nofr (ok : X.Ok) {b : Addr} {o : Obj} (e : X.base.get? b = some o) : b ∉ X.fs := fun hb => by
  have := (ok.funs.mem hb).1
  rw [e] at this; cases this
theorem Inv.bs (I : Inv X pins σ H s) : ∀ b o, X.base.get? b = some o → s.heap.get? b = some o ∧ H b = none := fun b o e =>
  ⟨I.base.keep b o (I.ok.bs b o e).1 (I.ok.bs b o e).2 (I.ok.nofr e) (I.ok.noex b o e), I.base.free b o (I.ok.bs b o e).1 (I.ok.bs b o e).2 (I.ok.noex b o e)⟩
theorem Inv.bk (I : Inv X pins σ H s) : ∀ b o, X.base.get? b = some o → s.heap.get? b = some o := fun b o e => (I.bs b o e).1
theorem Inv.mod (I : Inv X pins σ H s) : Mod X.K X.mg X.base := I.ok.mod
theorem Inv.kIn (I : Inv X pins σ H s) : X.K.In s.heap := I.ok.mod.kin.keeps I.bk
theorem Inv.lt (I : Inv X pins σ H s) : X.env.locals < s.heap.objs.size := let ⟨_, hn, _⟩ := I.loc; hn.lt
theorem Inv.sz (I : Inv X pins σ H s) : X.s₀.heap.objs.size ≤ s.heap.objs.size := Nat.le_trans I.ok.above (Nat.le_of_lt I.lt)
theorem Inv.nofs (I : Inv X pins σ H s) {a : Addr} (h : s.heap.objs.size ≤ a) : a ∉ X.fs := fun hb => by
  obtain ⟨_, o, ho, _⟩ := I.ok.funs.mem hb
  exact absurd (Nat.lt_of_lt_of_le (Heap.lt_size ho) (Nat.le_trans I.sz h)) (Nat.lt_irrefl _)
theorem Inv.cne (I : Inv X pins σ H s) : ∀ x c, X.env.cells.lookup x = some c → c ≠ X.env.locals := fun x c e z => by
  obtain ⟨v, o, ho, hd⟩ := I.cell x c e
  obtain ⟨m, ⟨o', es, ep, ho', hd', _⟩, _⟩ := I.loc
  rw [z, ho'] at ho; cases ho; rw [hd'] at hd; cases hd
theorem Inv.funs (I : Inv X pins σ H s) : s.heap.FunFrames X.base X.outer := by
  have all : ∀ (l : List Env), (∀ b ∈ frs l, b ∈ X.fs) → X.s₀.heap.FunFrames X.base l → s.heap.FunFrames X.base l := by
    intro l
    induction l with
    | nil => intro _ _; trivial
    | cons env r ih =>
      intro hs hl
      obtain ⟨hk, ⟨L, o, hf, hn, ho, hd⟩, hr⟩ := hl
      have hL : L ∈ X.fs := hs L (by unfold frs; rw [List.filterMap_cons, hf]; exact List.mem_cons_self)
      obtain ⟨sl, e⟩ := I.base.slot L o ho (I.ok.frf L hL) hL fun z => I.ok.exfs L z hL
      exact ⟨hk, ⟨L, _, hf, hn, e, hd⟩, ih (fun b hb => hs b (by unfold frs; rw [List.filterMap_cons, hf]; exact List.mem_cons_of_mem _ hb)) hr⟩
  exact all X.outer (fun _ hb => hb) I.ok.funs

/-- the frames that run, for a call -/
theorem Inv.stack (I : Inv X pins σ H s) : s.heap.FunFrames X.base X.stack := by
  rcases I.ok.stk with e | ⟨e, hf⟩
  · rw [e]; exact I.funs
  · rw [e]
    obtain ⟨m, hn, _⟩ := I.loc
    refine .cons (by rw [I.ok.kind]; decide) hf hn ?_ I.funs
    exact Heap.get?_none_of_le (Nat.le_trans I.ok.bsz I.ok.above)
theorem Inv.stkSub (I : Inv X pins σ H s) : ∀ b ∈ frs X.stack, b ∈ X.env.locals :: X.fs := fun b hb => by
  rcases I.ok.stk with e | ⟨e, hf⟩
  · rw [e] at hb; exact List.mem_cons_of_mem _ hb
  · rw [e] at hb
    unfold frs at hb
    rw [List.filterMap_cons, hf] at hb
    exact hb
theorem Inv.stkFree (I : Inv X pins σ H s) : ∀ b ∈ frs X.stack, H b = none := fun b hb => by
  rcases List.mem_cons.mp (I.stkSub b hb) with e | hb
  · rw [e]; exact I.free
  · obtain ⟨_, o, ho, _⟩ := I.ok.funs.mem hb
    exact I.base.free b o ho (I.ok.frf b hb) fun z => I.ok.exfs b z hb

/-- THE STEP: the untracked objects but the frame and the records at ch are kept (the callers' frames up to slots), the frame's map is kept, the new abstract heap is held -/
theorem Inv.step {g' : Array GenState} {t' : Nat} {d' : Drawn} {ch : List Addr} (I : Inv X pins σ H s)
    (hch : ∀ b ∈ ch, (b ∈ X.ex ∨ X.s₀.heap.objs.size ≤ b) ∧ b ≠ X.env.locals ∧ (∀ x c, X.env.cells.lookup x = some c → c ≠ b) ∧ ∀ p ∈ X.pn ++ pins, p.1 ≠ b)
    (keep : ∀ b o, b ≠ X.env.locals → b ∉ X.fs → b ∉ ch → s.heap.get? b = some o → H b = none → h'.get? b = some o)
    (slot : ∀ b o, b ≠ X.env.locals → b ∈ X.fs → b ∉ ch → s.heap.get? b = some o → H b = none → ∃ sl, h'.get? b = some { o with slots := sl }) (free : ∀ b o, b ∉ ch → s.heap.get? b = some o → H b = none → H' b = none)
    (there : ∀ b o, b ∉ ch → s.heap.get? b = some o → ∃ o', h'.get? b = some o')
    (tups : ∀ b xs, H b = some (.tup xs) → H' b = some (.tup xs)) (frzs : ∀ b o u, H b = some (.frz o u) → H' b = some (.frz o u)) (tbls : ∀ b ps, H b = some (.tbl ps) → ∃ more, H' b = some (.tbl (ps ++ more)))
    (ns : ∀ m, s.heap.Ns X.env.locals m → h'.Ns X.env.locals m) (hok : HOk X.prog X.w H' h') (hg : AllBare g') :
    Inv X pins σ H' { s with heap := h', gens := g', drawn := d', toks := t' } := by
  have neL : ∀ b o, X.s₀.heap.get? b = some o → b ≠ X.env.locals := fun b o e => Nat.ne_of_lt (Nat.lt_of_lt_of_le (Heap.lt_size e) I.ok.above)
  have neC : ∀ b o, X.s₀.heap.get? b = some o → b ∉ X.ex → b ∉ ch := fun b o e hx hb => by
    rcases (hch b hb).1 with z | z
    · exact hx z
    · exact absurd (Nat.lt_of_lt_of_le (Heap.lt_size e) z) (Nat.lt_irrefl _)
  have cellK : ∀ x c, X.env.cells.lookup x = some c → ∀ v, s.heap.IsCell c v → h'.IsCell c v := fun x c e v ⟨o, ho, hd⟩ => by
    have nch : c ∉ ch := fun z => (hch c z).2.2.1 x c e rfl
    by_cases hc : c ∈ X.fs
    · obtain ⟨sl, q⟩ := slot c o (I.cne x c e) hc nch ho (I.freeC x c e)
      exact ⟨_, q, hd⟩
    · exact ⟨o, keep c o (I.cne x c e) hc nch ho (I.freeC x c e), hd⟩
  refine ⟨I.ok, I.os, hg, ⟨fun b o e n hb hx => ?_, fun b o e n hb hx => ?_, fun b o e n hx => ?_, fun b o e hx => ?_, fun b xs e => tups b xs (I.base.tups b xs e), fun b o xs e => frzs b o xs (I.base.frzs b o xs e), fun b ps e => ?_⟩, ?_, fun x c e => ?_, ?_, fun x c e => ?_, fun p hp => ?_, hok, I.len⟩
  · exact keep b o (neL b o e) hb (neC b o e hx) (I.base.keep b o e n hb hx) (I.base.free b o e n hx)
  · obtain ⟨sl, e1⟩ := I.base.slot b o e n hb hx
    obtain ⟨sl', e2⟩ := slot b _ (neL b o e) hb (neC b o e hx) e1 (I.base.free b o e n hx)
    exact ⟨sl', e2⟩
  · obtain ⟨o', e1⟩ := I.base.there b o e hx
    exact free b o' (neC b o e hx) e1 (I.base.free b o e n hx)
  · obtain ⟨o', e1⟩ := I.base.there b o e hx
    exact there b o' (neC b o e hx) e1
  · obtain ⟨m1, e1⟩ := I.base.tbls b ps e
    obtain ⟨m2, e2⟩ := tbls b _ e1
    exact ⟨m1 ++ m2, by rw [e2, Array.append_assoc]⟩
  · obtain ⟨m, hn, hl⟩ := I.loc
    refine ⟨m, ns m hn, fun i x v e1 e2 e3 => ?_⟩
    obtain ⟨u, r, l⟩ := hl i x v e1 e2 e3
    refine ⟨u, r, ?_⟩
    rcases l with l | ⟨k, c, e, z⟩
    · exact .inl l
    · exact .inr ⟨k, c, e, cellK x c e _ z⟩
  · obtain ⟨v, z⟩ := I.cell x c e
    exact ⟨v, cellK x c e v z⟩
  · obtain ⟨m, ⟨o, _, _, ho, _⟩, _⟩ := I.loc
    exact free _ o (fun z => (hch _ z).2.1 rfl) ho I.free
  · obtain ⟨v, o, ho, hd⟩ := I.cell x c e
    exact free c o (fun z => (hch c z).2.2.1 x c e rfl) ho (I.freeC x c e)
  · obtain ⟨e, n, ne, nf, d⟩ := I.pin p hp
    have nch : p.1 ∉ ch := fun z => (hch p.1 z).2.2.2 p hp rfl
    exact ⟨keep p.1 p.2 ne nf nch e n, free p.1 p.2 nch e n, ne, nf, d⟩
/-- .. where the frame's own object is kept too -/
theorem Inv.un {t' : Nat} (I : Inv X pins σ H s) (u : Un X.fs [] H H' s.heap h') (hok : HOk X.prog X.w H' h') : Inv X pins σ H' { s with heap := h', toks := t' } := by
  obtain ⟨m, ⟨o, es, ep, ho, r⟩, _⟩ := id I.loc
  obtain ⟨sl, hL⟩ := u.any ho I.free (by simp)
  exact I.step (g' := s.gens) (d' := s.drawn) (ch := []) (fun _ z => nomatch z) (fun b o _ hb _ e n => u.keep b o e n hb (by simp)) (fun b o _ hb _ e n => u.slot b o e n hb (by simp)) (fun b o _ e n => u.free b o e n (by simp)) (fun b o _ e => u.there b o e (by simp)) u.tups u.frzs u.tbls (fun m' hm => by
    obtain ⟨o', es', ep', ho', r'⟩ := hm
    rw [ho] at ho'; cases ho'
    exact ⟨_, es', ep', hL, r'⟩) hok I.bare
/-- behind a call (or a comprehension's block): the slots of this frame may have changed too, the records at ch may have turned -/
theorem Inv.call {g' : Array GenState} {t' : Nat} {d' : Drawn} {ch : List Addr} (I : Inv X pins σ H s) (u : Un (frs X.stack) ch H H' s.heap h') (hok : HOk X.prog X.w H' h') (hg : AllBare g')
    (hch : ∀ b ∈ ch, (b ∈ X.ex ∨ X.s₀.heap.objs.size ≤ b) ∧ b ≠ X.env.locals ∧ (∀ x c, X.env.cells.lookup x = some c → c ≠ b) ∧ ∀ p ∈ X.pn ++ pins, p.1 ≠ b) :
    Inv X pins σ H' { s with heap := h', gens := g', drawn := d', toks := t' } := by
  obtain ⟨m, ⟨o, es, ep, ho, r⟩, _⟩ := id I.loc
  obtain ⟨sl, hL⟩ := u.any ho I.free fun z => (hch _ z).2.1 rfl
  exact I.step (ch := ch) hch (fun b o hL hb hc e n => u.keep b o e n (fun z => (List.mem_cons.mp (I.stkSub b z)).elim hL hb) hc) (fun b o _ _ hc e n => u.any e n hc) (fun b o hc e n => u.free b o e n hc) (fun b o hc e => u.there b o e hc) u.tups u.frzs u.tbls (fun m' hm => by
    obtain ⟨o', es', ep', ho', r'⟩ := hm
    rw [ho] at ho'; cases ho'
    exact ⟨_, es', ep', hL, r'⟩) hok hg
/-- an untracked record of ours (an iterator) has turned -/
theorem Inv.turned {t' : Nat} {it : Addr} (I : Inv X pins σ H s) (k : ∀ b o, b ≠ it → s.heap.get? b = some o → h'.get? b = some o) (hn : H it = none) (hL : it ≠ X.env.locals)
    (h1 : it ∈ X.ex ∨ X.s₀.heap.objs.size ≤ it) (h2 : ∀ x c, X.env.cells.lookup x = some c → c ≠ it) (h3 : ∀ p ∈ X.pn ++ pins, p.1 ≠ it) : Inv X pins σ H { s with heap := h', toks := t' } := by
  have nit : ∀ b u, H b = some u → b ≠ it := fun b u e z => by rw [z, hn] at e; cases e
  refine I.step (g' := s.gens) (d' := s.drawn) (ch := [it]) (fun b hb => ?_) (fun b o _ _ hc e _ => k b o (fun z => hc (by simp [z])) e) (fun b o _ _ hc e _ => ⟨o.slots, k b o (fun z => hc (by simp [z])) e⟩) (fun _ _ _ _ n => n)
    (fun b o hc e => ⟨o, k b o (fun z => hc (by simp [z])) e⟩) (fun _ _ e => e) (fun _ _ _ e => e) (fun b ps e => ⟨#[], by rw [e]; simp⟩) (fun m hm => ?_) (fun b u e => ?_) I.bare
  · have e : b = it := by simpa using hb
    subst e
    exact ⟨h1, hL, h2, h3⟩
  · obtain ⟨o, es, ep, ho, r⟩ := hm
    exact ⟨o, es, ep, k _ o (Ne.symm hL) ho, r⟩
  · refine (I.hok b u e).stay (fun c v hc q => k c v ?_ q) (fun _ q => q) fun _ _ q => q
    rcases hc with z | z
    · rw [z]; exact nit b u e
    · exact nit c _ z
theorem Inv.tok (I : Inv X pins σ H s) (t : Nat) : Inv X pins σ H { s with toks := t } := I.un (h' := s.heap) (t' := t) Un.refl I.hok
/-- all objects kept -/
theorem Inv.kept {t' : Nat} (I : Inv X pins σ H s) (k : ∀ b u, s.heap.get? b = some u → h'.get? b = some u) : Inv X pins σ H { s with heap := h', toks := t' } := I.un (Un.kept k) (I.hok.kept k)
/-- a new object laid and tracked -/
theorem Inv.laid {a : Addr} {o : HO} {t' : Nat} (I : Inv X pins σ H s) (k : ∀ b u, s.heap.get? b = some u → h'.get? b = some u) (hp : s.heap.objs.size ≤ a) (new : ObjOk X.prog X.w (upd H a o) h' a o) :
    Inv X pins σ (upd H a o) { s with heap := h', toks := t' } := I.un (Un.laid k hp (I.hok.fresh hp)) (I.hok.laid k hp new)
/-- an object written -/
theorem Inv.write {x e : Addr} {o : HO} {t' : Nat} (I : Inv X pins σ H s) (mu : Mut (H x)) (he : e = x ∨ H e = some (.own x)) (k : ∀ b u, b ≠ e → s.heap.get? b = some u → h'.get? b = some u) (heo : ∃ u, h'.get? e = some u)
    (new : ObjOk X.prog X.w (upd H x o) h' x o) : Inv X pins σ (upd H x o) { s with heap := h', toks := t' } := I.un (Un.write mu he k heo) (I.hok.write mu he k heo new)
theorem Inv.pins_of {pins' : List (Addr × Obj)} (I : Inv X pins σ H s) (h : ∀ p ∈ pins', s.heap.get? p.1 = some p.2 ∧ H p.1 = none ∧ p.1 ≠ X.env.locals ∧ p.1 ∉ X.fs ∧ ∀ v, p.2.data ≠ .cell v) : Inv X pins' σ H s :=
  ⟨I.ok, I.os, I.bare, I.base, I.loc, I.cell, I.free, I.freeC, fun p hp => (List.mem_append.mp hp).elim (fun z => I.pin p (List.mem_append_left _ z)) (h p), I.hok, I.len⟩

theorem nodup_ix {N : List Str} (hN : N.Nodup) {i j : Nat} {x : Str} (a : N[i]? = some x) (b : N[j]? = some x) : i = j := by
  obtain ⟨h1, e1⟩ := List.getElem?_eq_some_iff.mp a
  obtain ⟨h2, e2⟩ := List.getElem?_eq_some_iff.mp b
  exact (List.getElem_inj hN).mp (e1.trans e2.symm)

/-- a name is stored; what changed -/
theorem store_ok2 {M : Model} {A : Around} {E : Value → Shared → Prop} {i : Nat} {x : Str} {v : V} {u : Value} {Q : Unit → Shared → Prop} (I : Inv X pins σ H s) (hN : X.N.Nodup) (hi : X.N[i]? = some x) (hx : Loc X.env.scope x) (r : RelV v u)
    (h : ∀ s', Inv X pins (σ.set i (some v)) H s' → (∃ a, Heap.SameBut a s.heap s'.heap ∧ (a = X.env.locals ∨ X.env.cells.lookup x = some a)) → Q () s') (hf : X.fn x = true ∨ X.env.scope.names.lookup x = some .local := by first | exact .inl rfl | exact .inr rfl | assumption) : wpAny M A (storeName X.env x u) Q E s := by
  obtain ⟨m, hn, hl⟩ := id I.loc
  have hcls : (X.env.scope.kind == .class || (X.env.scope.kind == .module && X.env.locals != X.env.globals)) = false := by rw [I.ok.kind]; rfl
  have hiσ : i < σ.length := by rw [I.len]; exact (List.getElem?_eq_some_iff.mp hi).1
  have cne := I.cne
  have tracked : ∀ {a : Addr} {h' : Heap}, (∃ o, s.heap.get? a = some o ∧ H a = none) → Heap.SameBut a s.heap h' → HOk X.prog X.w H h' := fun {a h'} ha hs b ob e => by
    obtain ⟨_, _, hfree⟩ := ha
    refine (I.hok b ob e).stay (fun c w' hc q => (hs.2 c ?_).trans q) (fun _ q => q) fun _ _ q => q
    rintro rfl
    rcases hc with rfl | hc
    · rw [hfree] at e; cases e
    · rw [hfree] at hc; cases hc
  rcases hx with hk | hk
  · refine wpAny_storeName_local hk hn (fun h' hn' hs => ?_) hcls
    obtain ⟨oL, _, _, hoL, _⟩ := id hn
    refine h _ ⟨I.ok, I.os, I.bare, ⟨fun b o e n hb hx => ?_, fun b o e n hb hx => ?_, I.base.free, fun b o e hx => ?_, I.base.tups, I.base.frzs, I.base.tbls⟩, ⟨_, hn', fun j y v' e1 e2 e3 => ?_⟩, fun y c e => ?_, I.free, I.freeC, fun p hp => ?_, tracked ⟨oL, hoL, I.free⟩ hs, by simpa using I.len⟩ ⟨_, hs, .inl rfl⟩
    · exact (hs.2 b (Nat.ne_of_lt (Nat.lt_of_lt_of_le (Heap.lt_size e) I.ok.above))).trans (I.base.keep b o e n hb hx)
    · obtain ⟨sl, e1⟩ := I.base.slot b o e n hb hx
      exact ⟨sl, (hs.2 b (Nat.ne_of_lt (Nat.lt_of_lt_of_le (Heap.lt_size e) I.ok.above))).trans e1⟩
    · obtain ⟨o', e1⟩ := I.base.there b o e hx
      exact ⟨o', (hs.2 b (Nat.ne_of_lt (Nat.lt_of_lt_of_le (Heap.lt_size e) I.ok.above))).trans e1⟩
    · by_cases hj : j = i
      · subst hj
        rw [hi] at e1; cases e1
        rw [List.getElem?_set_self hiσ] at e2
        cases e2
        exact ⟨u, r, .inl ⟨hk, by simp⟩⟩
      · rw [List.getElem?_set_ne (Ne.symm hj)] at e2
        obtain ⟨u', r', q⟩ := hl j y v' e1 e2 e3
        refine ⟨u', r', ?_⟩
        rcases q with ⟨k, e⟩ | ⟨k, c, e, z⟩
        · refine .inl ⟨k, ?_⟩
          have : y ≠ x := fun e => hj (nodup_ix hN e1 (e ▸ hi))
          simp [this, e]
        · exact .inr ⟨k, c, e, z.sameBut hs (cne y c e)⟩
    · obtain ⟨w', z⟩ := I.cell y c e
      exact ⟨w', z.sameBut hs (cne y c e)⟩
    · obtain ⟨e, n, ne, nf, d⟩ := I.pin p hp
      exact ⟨(hs.2 p.1 ne).trans e, n, ne, nf, d⟩
  · have hfn : X.fn x = true := by
      rcases hf with z | z
      · exact z
      · rw [z] at hk; cases hk
    obtain ⟨c, hc⟩ := I.ok.has x (.inl hk)
    obtain ⟨w', z⟩ := I.cell x c hc
    refine wpAny_storeName_cell I.ok.kind hk hc z (fun h' hc' hs => ?_)
    obtain ⟨oc, hoc, hocd⟩ := id z
    refine h { s with heap := h' } ⟨I.ok, I.os, I.bare, ⟨fun b o e n hb hx => ?_, fun b o e n hb hx => ?_, I.base.free, fun b o e hx => ?_, I.base.tups, I.base.frzs, I.base.tbls⟩, ⟨m, hn.sameBut hs (Ne.symm (cne x c hc)), fun j y v' e1 e2 e3 => ?_⟩, fun y c' e => ?_, I.free, I.freeC, fun p hp => ?_, tracked ⟨oc, hoc, I.freeC x c hc⟩ hs, by simpa using I.len⟩ ⟨c, hs, .inr hc⟩
    · exact (hs.2 b (Nat.ne_of_lt (Nat.lt_of_lt_of_le (Heap.lt_size e) (I.ok.cab x c hfn hc)))).trans (I.base.keep b o e n hb hx)
    · obtain ⟨sl, e1⟩ := I.base.slot b o e n hb hx
      exact ⟨sl, (hs.2 b (Nat.ne_of_lt (Nat.lt_of_lt_of_le (Heap.lt_size e) (I.ok.cab x c hfn hc)))).trans e1⟩
    · obtain ⟨o', e1⟩ := I.base.there b o e hx
      exact ⟨o', (hs.2 b (Nat.ne_of_lt (Nat.lt_of_lt_of_le (Heap.lt_size e) (I.ok.cab x c hfn hc)))).trans e1⟩
    · by_cases hj : j = i
      · subst hj
        rw [hi] at e1; cases e1
        rw [List.getElem?_set_self hiσ] at e2
        cases e2
        exact ⟨u, r, .inr ⟨.inl hk, c, hc, hc'⟩⟩
      · rw [List.getElem?_set_ne (Ne.symm hj)] at e2
        obtain ⟨u', r', q⟩ := hl j y v' e1 e2 e3
        refine ⟨u', r', ?_⟩
        rcases q with q | ⟨k, c', e, z'⟩
        · exact .inl q
        · refine .inr ⟨k, c', e, z'.sameBut hs ?_⟩
          rintro rfl
          exact hj (nodup_ix hN e1 (I.ok.inj _ _ _ e hc ▸ hi))
    · by_cases hcc : c' = c
      · subst hcc; exact ⟨_, hc'⟩
      · obtain ⟨w2, z2⟩ := I.cell y c' e
        exact ⟨w2, z2.sameBut hs hcc⟩
    · obtain ⟨e, n, ne, nf, d⟩ := I.pin p hp
      refine ⟨(hs.2 p.1 ?_).trans e, n, ne, nf, d⟩
      intro q
      rw [q, hoc] at e
      have q' : oc = p.2 := Option.some.inj e
      exact d w' (by rw [← q']; exact hocd)
theorem store_ok {M : Model} {A : Around} {E : Value → Shared → Prop} {i : Nat} {x : Str} {v : V} {u : Value} {Q : Unit → Shared → Prop} (I : Inv X pins σ H s) (hN : X.N.Nodup) (hi : X.N[i]? = some x) (hx : Loc X.env.scope x) (r : RelV v u)
    (h : ∀ s', Inv X pins (σ.set i (some v)) H s' → Q () s') (hf : X.fn x = true ∨ X.env.scope.names.lookup x = some .local := by first | exact .inl rfl | exact .inr rfl | assumption) : wpAny M A (storeName X.env x u) Q E s :=
  store_ok2 I hN hi hx r (fun s' I' _ => h s' I') hf
/-- behind a call or a block, the state as it is -/
theorem Inv.call' {s' : Shared} {ch : List Addr} (I : Inv X pins σ H s) (ho : s'.os = s.os) (u : Un (frs X.stack) ch H H' s.heap s'.heap) (hok : HOk X.prog X.w H' s'.heap) (hg : AllBare s'.gens)
    (hch : ∀ b ∈ ch, (b ∈ X.ex ∨ X.s₀.heap.objs.size ≤ b) ∧ b ≠ X.env.locals ∧ (∀ x c, X.env.cells.lookup x = some c → c ≠ b) ∧ ∀ p ∈ X.pn ++ pins, p.1 ≠ b) : Inv X pins σ H' s' := by
  obtain ⟨h', g', d', t', o'⟩ := s'
  have e : o' = s.os := ho
  subst e
  exact I.call (g' := g') (t' := t') (d' := d') u hok hg hch
end

/-! ### the judgements -/
/-- an exception: its class, its own dict's address (where it has one), the abstract heap behind it -/
noncomputable abbrev XK := Value → Option Addr → Hp → Prop
noncomputable abbrev St := List (Option V)
noncomputable abbrev VK := V → Hp → Prop
/-- an expression's reading; a test's; an argument list's -/
noncomputable abbrev TE := St → Hp → VK → Prop
noncomputable abbrev TT := St → Hp → (Bool → Hp → Prop) → Prop
noncomputable abbrev TA := St → Hp → (List V → Hp → Prop) → Prop
/-- what is wanted behind a statement -/
structure Ends where
  nx : St → Hp → Prop
  rt : VK
  bk : St → Hp → Prop := fun _ _ => False
  ct : St → Hp → Prop := fun _ _ => False
noncomputable abbrev TS := Ends → St → Hp → Prop

noncomputable def EP (X : Cx) (pins : List (Addr × Obj)) (σ : St) (Q : VK) (u : Value) (s' : Shared) : Prop := ∃ v H', Inv X pins σ H' s' ∧ RelV v u ∧ Q v H'
noncomputable def TP (X : Cx) (pins : List (Addr × Obj)) (σ : St) (Q : Bool → Hp → Prop) (b : Bool) (s' : Shared) : Prop := ∃ H', Inv X pins σ H' s' ∧ Q b H'
noncomputable def AP (X : Cx) (pins : List (Addr × Obj)) (σ : St) (Q : List V → Hp → Prop) (us : List Value) (s' : Shared) : Prop := ∃ vs H', Inv X pins σ H' s' ∧ Vals vs us ∧ Q vs H'
noncomputable def SP (X : Cx) (pins : List (Addr × Obj)) (D : Ends) (f : Flow) (s' : Shared) : Prop :=
  match f with
  | .next => ∃ σ' H', Inv X pins σ' H' s' ∧ D.nx σ' H'
  | .brk => ∃ σ' H', Inv X pins σ' H' s' ∧ D.bk σ' H'
  | .cont => ∃ σ' H', Inv X pins σ' H' s' ∧ D.ct σ' H'
  | .ret u => ∃ v σ' H', Inv X pins σ' H' s' ∧ RelV v u ∧ D.rt v H'

noncomputable def PE (X : Cx) (e : Expr) (t : TE) : Prop :=
  ∀ (pins : List (Addr × Obj)) (s : Shared) (σ : St) (H : Hp) (Q : VK), Inv X pins σ H s → t σ H Q → wpAny (model X.prog X.w) X.A (eval e X.env) (EP X pins σ Q) X.xe s
noncomputable def PT (X : Cx) (e : Expr) (t : TT) : Prop :=
  ∀ (pins : List (Addr × Obj)) (s : Shared) (σ : St) (H : Hp) (Q : Bool → Hp → Prop), Inv X pins σ H s → t σ H Q → wpAny (model X.prog X.w) X.A (isTrue e X.env (eval e X.env)) (TP X pins σ Q) X.xe s
/-- a test whatever its 'whole' is (and, or) -/
noncomputable def PW (X : Cx) (e : Expr) (t : TT) : Prop :=
  ∀ (whole : Sem Value) (pins : List (Addr × Obj)) (s : Shared) (σ : St) (H : Hp) (Q : Bool → Hp → Prop), Inv X pins σ H s → t σ H Q → wpAny (model X.prog X.w) X.A (isTrue e X.env whole) (TP X pins σ Q) X.xe s
theorem PW.pt {X : Cx} {e : Expr} {t : TT} (h : PW X e t) : PT X e t := h _
/-- an argument list (no star), from the left -/
noncomputable def PA (X : Cx) (es : List Expr) (t : TA) : Prop :=
  ∀ (pos : Pos) (pins : List (Addr × Obj)) (s : Shared) (σ : St) (H : Hp) (Q : List V → Hp → Prop), Inv X pins σ H s → t σ H Q → wpAny (model X.prog X.w) X.A (spliced (backTo pos (starEach es X.env))) (AP X pins σ Q) X.xe s
noncomputable def PS (X : Cx) (st : Stmt) (t : TS) : Prop :=
  ∀ (pins : List (Addr × Obj)) (s : Shared) (σ : St) (H : Hp) (D : Ends), Inv X pins σ H s → t D σ H → wpAny (model X.prog X.w) X.A (exec st X.env) (SP X pins D) X.xe s
noncomputable def PSs (X : Cx) (st : List Stmt) (t : TS) : Prop :=
  ∀ (pins : List (Addr × Obj)) (s : Shared) (σ : St) (H : Hp) (D : Ends), Inv X pins σ H s → t D σ H → wpAny (model X.prog X.w) X.A (execs st X.env) (SP X pins D) X.xe s
/-- weaken the end -/
theorem thn {α : Type} {t : Sem α} {Q Q' : α → Shared → Prop} {M : Model} {A : Around} {E : Value → Shared → Prop} {s : Shared} (h : wpAny M A t Q E s) (hQ : ∀ a s, Q a s → Q' a s) : wpAny M A t Q' E s := wpAny_mono h hQ fun _ _ x => x
end L2

namespace L2
open PySem PySem.Spec PyProof.Rows
section
variable {X : Cx}


/-! ### names and constants -/
noncomputable def tVar (i : Nat) : TE := fun σ H Q => ∃ v, σ[i]? = some (some v) ∧ Q v H
noncomputable def tC (v : V) : TE := fun _ H Q => Q v H
theorem pe_var {i : Nat} {x : Str} {pos : Pos} (hN : X.N[i]? = some x) (hv : Vis X.env.scope x) (hd : (x == ("__debug__" : Str)) = false := by decide) (hcd : (x == ("__classdict__" : Str)) = false := by decide) : PE X (.Name x pos) (tVar i) := by
  intro pins s σ H Q I h
  obtain ⟨v, e, h⟩ := h
  obtain ⟨m, hn, hl⟩ := I.loc
  obtain ⟨u, r, l⟩ := hl i x v hN e hv
  have fin : EP X pins σ Q u s := ⟨v, H, I, r, h⟩
  rcases l with ⟨hk, hm⟩ | ⟨hk, c, hc, hcell⟩
  · exact wpAny_Name (wpAny_loadName_local I.ok.kind hk hn hm fin) hd
  · rcases hk with hk | hk
    · exact wpAny_Name (wpAny_loadName_cell I.ok.kind hk hc hcell fin) hd
    · exact wpAny_Name (wpAny_loadName_free I.ok.kind hk hc hcell fin hcd) hd
theorem pe_int {i j pos} : PE X (.Constant (.int i) j pos) (tC (.int i)) := fun _ _ _ H _ I h => wpAny_Constant_int ⟨.int i, H, I.tok _, ⟨_, rfl⟩, h⟩
theorem pe_bl {b j pos} : PE X (.Constant (.bool b) j pos) (tC (.bl b)) := fun _ _ _ H _ I h => Constant_bool ⟨.bl b, H, I, rfl, h⟩
theorem pe_non {j pos} : PE X (.Constant .none j pos) (tC .non) := fun _ _ _ H _ I h => Constant_none ⟨.non, H, I, rfl, h⟩
theorem pe_str {x j pos} : PE X (.Constant (.str x) j pos) (tC (.str x)) := fun _ _ _ H _ I h => Calls.Constant_str ⟨.str x, H, I.tok _, ⟨_, rfl⟩, h⟩

/-- a global name of the def -/
noncomputable def Gl (X : Cx) (x : Str) : Prop := X.env.kindOf x = some .globalImplicit
theorem ld_glob {E : Value → Shared → Prop} {pins : List (Addr × Obj)} {s : Shared} {σ : St} {H : Hp} {x : Str} {u : Value} {pos : Pos} {Q : Value → Shared → Prop} (I : Inv X pins σ H s) (hg : Gl X x) (hm : X.mg x = some u) (h : Q u s)
    (hd : (x == ("__debug__" : Str)) = false := by decide) : wpAny (model X.prog X.w) X.A (eval (.Name x pos) X.env) Q E s :=
  Calls.Name_function_global I.ok.kind hg (Calls.loadGlobal_global (by rw [I.ok.glob]; exact I.mod.glob.keeps I.bk) hm h) hd
theorem ld_blt {E : Value → Shared → Prop} {pins : List (Addr × Obj)} {s : Shared} {σ : St} {H : Hp} {x : Str} {u : Value} {pos : Pos} {Q : Value → Shared → Prop} (I : Inv X pins σ H s) (hg : Gl X x) (hm : X.mg x = none) (hv : bootBuiltins x = some u) (h : Q u s)
    (hn : x ≠ "__name__" := by decide) (hd : (x == ("__debug__" : Str)) = false := by decide) : wpAny (model X.prog X.w) X.A (eval (.Name x pos) X.env) Q E s := by
  obtain ⟨mb, h1, h2⟩ := I.mod.blt
  exact Calls.Name_function_global I.ok.kind hg (Calls.loadGlobal_builtin (by rw [I.ok.glob]; exact I.mod.glob.keeps I.bk) hm (by rw [I.ok.blt]; exact h1.keeps I.bk) ((h2 x hn).trans hv) h) hd
/-- a module's constant, a class, a function, as a value -/
theorem pe_glob {x : Str} {v : V} {u : Value} {pos : Pos} (hg : Gl X x) (hm : X.mg x = some u) (r : RelV v u) (hd : (x == ("__debug__" : Str)) = false := by decide) : PE X (.Name x pos) (tC v) :=
  fun _ _ _ H _ I h => ld_glob I hg hm ⟨v, H, I, r, h⟩ hd
theorem pe_bltn {x : Str} {v : V} {u : Value} {pos : Pos} (hg : Gl X x) (hm : X.mg x = none) (hv : bootBuiltins x = some u) (r : RelV v u) (hn : x ≠ "__name__" := by decide) (hd : (x == ("__debug__" : Str)) = false := by decide) : PE X (.Name x pos) (tC v) :=
  fun _ _ _ H _ I h => ld_blt I hg hm hv ⟨v, H, I, r, h⟩ hn hd

/-! ### arithmetic -/
variable {a b : Expr} {ta tb : TE} {pos : Pos}

/-! ### comparisons -/
noncomputable def PC (X : Cx) (op : CmpOp) (a b : Expr) (t : TE) : Prop :=
  ∀ (pins : List (Addr × Obj)) (s : Shared) (σ : St) (H : Hp) (Q : VK), Inv X pins σ H s → t σ H Q →
    wpAny (model X.prog X.w) X.A (eval a X.env) (fun v s₁ => wpAny (model X.prog X.w) X.A (eval b X.env) (fun u s₂ => wpAny (model X.prog X.w) X.A (compareOp op v u) (EP X pins σ Q) X.xe s₂) X.xe s₁) X.xe s
/-- a comparison as a value, as a test -/
noncomputable def tB (t : TE) : TT := fun σ H Q => t σ H fun x H1 => ∃ c, x = .bl c ∧ Q c H1
theorem pt_cmp {op : CmpOp} {t : TE} (h : PC X op a b t) (h1 : behindInMarks op b = false := by first | exact nobehind _ (by decide) (by decide) | rfl) : PT X (.Compare a [op] [b] pos) (tB t) := by
  intro pins s σ H Q I hw
  refine wpAny_isTrue_Compare1 (thn (h pins s σ H _ I hw) fun v s1 h1 => thn h1 fun u s2 h2 => thn h2 fun c s3 ⟨x, H1, I1, r1, q1⟩ => ?_) h1
  obtain ⟨d, rfl, q⟩ := q1
  cases r1
  exact wpAny_truthy_bool ⟨H1, I1, q⟩
/-- an expression whose value is a bool, as a test -/
theorem pt_val {e : Expr} {t : TE} (h : PE X e t) (he : ∀ whole, isTrue e X.env whole = (do let v ← whole; standAt e.pos; holding [v] (truthy v)) := by intro _; rfl) : PT X e (tB t) := by
  intro pins s σ H Q I hw
  refine isTrue_plain (thn (h pins s σ H _ I hw) fun v s1 ⟨x, H1, I1, r1, q1⟩ => ?_) (he _)
  obtain ⟨d, rfl, q⟩ := q1
  cases r1
  exact wpAny_truthy_bool ⟨H1, I1, q⟩

/-! ### and, or, not -/
variable {tA tB' : TT} {rest : List Expr}
noncomputable def tAnd (t u : TT) : TT := fun σ H Q => t σ H fun c H1 => if c = true then u σ H1 Q else Q false H1
noncomputable def tOr (t u : TT) : TT := fun σ H Q => t σ H fun c H1 => if c = true then Q true H1 else u σ H1 Q
noncomputable def tNot (t : TT) : TT := fun σ H Q => t σ H fun c H1 => Q (!c) H1
theorem pw_and1 (ha : PT X a tA) : PW X (.BoolOp .And [a] pos) tA := by
  intro wh pins s σ H Q I h
  refine isTrue_and (thn (ha pins s σ H Q I h) fun c s1 e => ?_)
  cases c with
  | true => exact isTrue_and_nil e
  | false => exact e
theorem pw_or1 (ha : PT X a tA) : PW X (.BoolOp .Or [a] pos) tA := by
  intro wh pins s σ H Q I h
  refine isTrue_or (thn (ha pins s σ H Q I h) fun c s1 e => ?_)
  cases c with
  | false => exact isTrue_or_nil e
  | true => exact e
theorem pw_and (ha : PT X a tA) (hb : PW X (.BoolOp .And (b :: rest) pos) tB') : PW X (.BoolOp .And (a :: b :: rest) pos) (tAnd tA tB') := by
  intro wh pins s σ H Q I h
  refine isTrue_and (thn (ha pins s σ H _ I h) fun c s1 ⟨H1, I1, q1⟩ => ?_)
  cases c with
  | true => exact hb wh pins s1 σ H1 Q I1 q1
  | false => exact ⟨H1, I1, q1⟩
theorem pw_or (ha : PT X a tA) (hb : PW X (.BoolOp .Or (b :: rest) pos) tB') : PW X (.BoolOp .Or (a :: b :: rest) pos) (tOr tA tB') := by
  intro wh pins s σ H Q I h
  refine isTrue_or (thn (ha pins s σ H _ I h) fun c s1 ⟨H1, I1, q1⟩ => ?_)
  cases c with
  | true => exact ⟨H1, I1, q1⟩
  | false => exact hb wh pins s1 σ H1 Q I1 q1
theorem pt_not (ha : PT X a tA) : PT X (.UnaryOp .Not a pos) (tNot tA) := by
  intro pins s σ H Q I h
  exact isTrue_not (ha pins s σ H (fun c H1 => Q (!c) H1) I h)
/-- .. as values (bools) -/
noncomputable def tAndV (ta tb : TE) : TE := fun σ H Q => ta σ H fun x H1 => ∃ c, x = .bl c ∧ if c = true then tb σ H1 Q else Q (.bl false) H1
noncomputable def tNotV (ta : TE) : TE := fun σ H Q => ta σ H fun x H1 => ∃ c, x = .bl c ∧ Q (.bl (!c)) H1
theorem pe_one {op} {t : TE} (h : PE X a t) : PE X (.BoolOp op [a] pos) t := fun pins s σ H Q I hw => BoolOp_one (h pins s σ H Q I hw)
theorem pe_and (ha : PE X a ta) (hb : PE X (.BoolOp .And (b :: rest) pos) tb) : PE X (.BoolOp .And (a :: b :: rest) pos) (tAndV ta tb) := by
  intro pins s σ H Q I h
  refine BoolOp_and (thn (ha pins s σ H _ I h) fun v s1 ⟨x, H1, I1, r1, q1⟩ => ?_)
  obtain ⟨c, rfl, q1⟩ := q1
  cases r1
  refine wpAny_truthy_bool ?_
  cases c with
  | true => exact hb pins s1 σ H1 Q I1 q1
  | false => exact ⟨.bl false, H1, I1, rfl, q1⟩
theorem pe_not (ha : PE X a ta) : PE X (.UnaryOp .Not a pos) (tNotV ta) := by
  intro pins s σ H Q I h
  refine UnaryOp_ (thn (ha pins s σ H _ I h) fun v s1 ⟨x, H1, I1, r1, q1⟩ => ?_)
  obtain ⟨c, rfl, q1⟩ := q1
  cases r1
  exact not_of (wpAny_truthy_bool ⟨.bl (!c), H1, I1, rfl, q1⟩)
end
end L2

namespace L2
open PySem PySem.Spec PyProof.Rows

/-! ### a list, a tuple that is read: tracked, frozen, or an object of the module -/
noncomputable def SqL (K : PySem.W.Frag) (H : Hp) (a : Addr) (xs : List V) : Prop :=
  Rd H a (.lst xs) ∨
    ∃ (o : Obj) (its : Array Value) (n : Nat), K.lookup a = some o ∧ o.cls = .type "list" ∧ o.dict = none ∧ o.data = .seq its n ∧ its.size ≤ sizeLine ∧ Vals xs its.toList
noncomputable def SqT (K : PySem.W.Frag) (H : Hp) (a : Addr) (xs : List V) : Prop :=
  Rd H a (.tup xs) ∨
    ∃ (o : Obj) (its : Array Value) (n : Nat), K.lookup a = some o ∧ o.cls = .type "tuple" ∧ o.data = .seq its n ∧ its.size ≤ sizeLine ∧ Vals xs its.toList
noncomputable def absV : Value → Option V
  | .none => some .non
  | .bool b => some (.bl b)
  | .int i _ => some (.int i)
  | .str x _ => some (.str x)
  | .bytes b _ => some (.byt b)
  | .float b _ => some (.flt b)
  | .ref a => some (.ref a)
  | .type n => some (.ty n)
  | _ => none
theorem RelV.abs {x : V} {u : Value} (r : RelV x u) : absV u = some x := by
  cases x with
  | non => cases r; rfl
  | bl _ => cases r; rfl
  | int _ => obtain ⟨t, rfl⟩ := r; rfl
  | str _ => obtain ⟨t, rfl⟩ := r; rfl
  | byt _ => obtain ⟨t, rfl⟩ := r; rfl
  | flt _ => obtain ⟨t, rfl⟩ := r; rfl
  | ref _ => cases r; rfl
  | ty _ => cases r; rfl
theorem RelV.inj {x y : V} {u : Value} (r : RelV x u) (q : RelV y u) : x = y := Option.some.inj (r.abs.symm.trans q.abs)
theorem Vals.inj : ∀ {xs ys : List V} {us : List Value}, Vals xs us → Vals ys us → xs = ys
  | _, _, _, .nil, .nil => rfl
  | _, _, _, .cons r t, .cons r' t' => by rw [r.inj r', Vals.inj t t']
section
variable {X : Cx} {pins : List (Addr × Obj)} {σ : St} {H : Hp} {s : Shared} {a : Addr} {xs ys : List V}
theorem SqL.of {K : PySem.W.Frag} (h : H a = some (.lst xs)) : SqL K H a xs := .inl (.inl h)
theorem SqT.of {K : PySem.W.Frag} (h : H a = some (.tup xs)) : SqT K H a xs := .inl (.inl h)
theorem Inv.list (I : Inv X pins σ H s) (h : SqL X.K H a xs) : ∃ its : List Value, Vals xs its ∧ PlainL s.heap a its.toArray ∧ xs.length ≤ sizeLine := by
  rcases h with h | ⟨o, its, n, hk, hc, hd, hs, hz, r⟩
  · obtain ⟨z, its, n, r, e⟩ := h.ok I.hok
    exact ⟨its, r, ⟨_, n, e, rfl, rfl, rfl⟩, z⟩
  · refine ⟨its.toList, r, ⟨o, n, I.kIn a o hk, hc, hd, by simpa using hs⟩, ?_⟩
    have e := r.length
    simp only [Array.length_toList] at e
    omega
theorem Inv.tuple (I : Inv X pins σ H s) (h : SqT X.K H a xs) : ∃ its : List Value, Vals xs its ∧ IsTup s.heap a its.toArray ∧ xs.length ≤ sizeLine := by
  rcases h with h | ⟨o, its, n, hk, hc, hs, hz, r⟩
  · obtain ⟨z, its, r, p⟩ := h.ok I.hok
    exact ⟨its, r, p, z⟩
  · refine ⟨its.toList, r, ⟨o, I.kIn a o hk, hc, n, by simpa using hs⟩, ?_⟩
    have e := r.length
    simp only [Array.length_toList] at e
    omega
theorem Inv.list_inj (I : Inv X pins σ H s) (h : SqL X.K H a xs) (h' : SqL X.K H a ys) : xs = ys := by
  obtain ⟨its, r, ⟨o, n, e, _, _, d⟩, _⟩ := I.list h
  obtain ⟨its', r', ⟨o', n', e', _, _, d'⟩, _⟩ := I.list h'
  rw [e] at e'; cases e'
  rw [d] at d'
  injection d' with d1 _
  have : its = its' := by simpa using congrArg Array.toList d1
  subst this
  exact r.inj r'
theorem Inv.tuple_inj (I : Inv X pins σ H s) (h : SqT X.K H a xs) (h' : SqT X.K H a ys) : xs = ys := by
  obtain ⟨its, r, ⟨o, e, _, n, d⟩, _⟩ := I.tuple h
  obtain ⟨its', r', ⟨o', e', _, n', d'⟩, _⟩ := I.tuple h'
  rw [e] at e'; cases e'
  rw [d] at d'
  injection d' with d1 _
  have : its = its' := by simpa using congrArg Array.toList d1
  subst this
  exact r.inj r'
end

/-! ### another wish about exceptions -/
noncomputable abbrev Cx.wish (X : Cx) (E : Value → Shared → Prop) : Cx := { X with xe := E }
/-- no exception leaves -/
noncomputable abbrev Cx.nox (X : Cx) : Cx := X.wish fun _ _ => False
theorem Cx.Ok.wish {X : Cx} (ok : X.Ok) (E : Value → Shared → Prop) : (X.wish E).Ok :=
  ⟨ok.mod, ok.kind, ok.glob, ok.blt, ok.above, ok.inj, ok.has, ok.cab, ok.hd, ok.frames, ok.stk, ok.exf, ok.bs, ok.bsz, ok.noex, ok.exfs, ok.funs, ok.frf⟩
theorem Cx.Ok.unwish {X : Cx} {E : Value → Shared → Prop} (ok : (X.wish E).Ok) : X.Ok :=
  ⟨ok.mod, ok.kind, ok.glob, ok.blt, ok.above, ok.inj, ok.has, ok.cab, ok.hd, ok.frames, ok.stk, ok.exf, ok.bs, ok.bsz, ok.noex, ok.exfs, ok.funs, ok.frf⟩
section
variable {X : Cx} {pins : List (Addr × Obj)} {σ : St} {H : Hp} {s : Shared} {E : Value → Shared → Prop}
theorem Inv.wish (I : Inv X pins σ H s) (E : Value → Shared → Prop) : Inv (X.wish E) pins σ H s := ⟨I.ok.wish E, I.os, I.bare, I.base, I.loc, I.cell, I.free, I.freeC, I.pin, I.hok, I.len⟩
theorem Inv.unwish (I : Inv (X.wish E) pins σ H s) : Inv X pins σ H s := ⟨I.ok.unwish, I.os, I.bare, I.base, I.loc, I.cell, I.free, I.freeC, I.pin, I.hok, I.len⟩
theorem SP.unwish {D : Ends} {f : Flow} {s' : Shared} (h : SP (X.wish E) pins D f s') : SP X pins D f s' := by
  cases f with
  | next => obtain ⟨σ', H', I, q⟩ := h; exact ⟨σ', H', I.unwish, q⟩
  | brk => obtain ⟨σ', H', I, q⟩ := h; exact ⟨σ', H', I.unwish, q⟩
  | cont => obtain ⟨σ', H', I, q⟩ := h; exact ⟨σ', H', I.unwish, q⟩
  | ret u => obtain ⟨v, σ', H', I, r, q⟩ := h; exact ⟨v, σ', H', I.unwish, r, q⟩
theorem PSs.nox {st : List Stmt} {t : TS} (h : PSs X.nox st t) : PSs X st t := fun pins s σ H D I hw =>
  wpAny_mono (h pins s σ H D (I.wish _) hw) (fun _ _ q => q.unwish) fun _ _ z => False.elim z
end

/-! ### blocks and small statements -/
section
variable {X : Cx} {st : Stmt} {rest : List Stmt} {t u : TS} {e : Expr} {te : TE} {pos : Pos}
noncomputable def tNext : TS := fun D σ H => D.nx σ H
noncomputable def tSeq (t u : TS) : TS := fun D σ H => t { D with nx := u D } σ H
theorem pss_nil : PSs X [] tNext := fun _ _ σ H _ I h => wpAny_execs_nil ⟨σ, H, I, h⟩
theorem pss_cons (h1 : PS X st t) (h2 : PSs X rest u) : PSs X (st :: rest) (tSeq t u) := by
  intro pins s σ H D I h
  refine wpAny_execs_cons (thn (h1 pins s σ H { D with nx := u D } I h) fun f s1 q => ?_)
  cases f with
  | next =>
    obtain ⟨σ', H', I', q⟩ := q
    exact h2 pins s1 σ' H' D I' q
  | ret v => exact q
  | brk => exact q
  | cont => exact q
theorem pss_one (h1 : PS X st t) : PSs X [st] t := by
  intro pins s σ H D I h
  refine wpAny_execs_cons (thn (h1 pins s σ H D I h) fun f s1 q => ?_)
  cases f with
  | next => exact wpAny_execs_nil q
  | ret v => exact q
  | brk => exact q
  | cont => exact q
/-- in a def's body nothing is shown -/
theorem Inv.quiet {pins : List (Addr × Obj)} {σ : St} {H : Hp} {s : Shared} (I : Inv X pins σ H s) : interactive X.env = false := by simp [interactive, I.ok.kind]
/-- an expression whose value is dropped -/
noncomputable def tDrop (te : TE) : TS := fun D σ H => te σ H fun _ H1 => D.nx σ H1
theorem ps_expr (he : PE X e te) (hs : swapsWith e none pos.line X.env = pure false := by rfl) : PS X (.Expr e pos) (tDrop te) := by
  intro pins s σ H D I h
  exact wpAny_Expr_any (thn (he pins s σ H _ I h) fun v s1 ⟨x, H1, I1, r1, q1⟩ => ⟨σ, H1, I1, q1⟩) I.quiet hs
noncomputable def tRet (te : TE) : TS := fun D σ H => te σ H D.rt
theorem ps_ret (he : PE X e te) : PS X (.Return (some e) pos) (tRet te) := by
  intro pins s σ H D I h
  exact wpAny_Return_some (thn (he pins s σ H _ I h) fun v s1 ⟨x, H1, I1, r1, q1⟩ => ⟨x, σ, H1, I1, r1, q1⟩)
noncomputable def tIfS (c : TT) (t u : TS) : TS := fun D σ H => c σ H fun b H1 => if b = true then t D σ H1 else u D σ H1
theorem ps_if {c : Expr} {a b : List Stmt} {tc : TT} (hc : PT X c tc) (ha : PSs X a t) (hb : PSs X b u) : PS X (.If c a b pos) (tIfS tc t u) := by
  intro pins s σ H D I h
  refine wpAny_If (thn (hc pins s σ H _ I h) fun d s1 ⟨H1, I1, q1⟩ => ?_)
  cases d with
  | true => exact ha pins s1 σ H1 D I1 q1
  | false => exact hb pins s1 σ H1 D I1 q1
end

/-! ### targets -/
noncomputable abbrev TG := V → St → Hp → (St → Hp → Prop) → Prop
noncomputable abbrev TGs := List V → St → Hp → (St → Hp → Prop) → Prop
noncomputable def PG (X : Cx) (target : Expr) (t : TG) : Prop :=
  ∀ (pins : List (Addr × Obj)) (s : Shared) (σ : St) (H : Hp) (v : V) (u : Value) (Q : St → Hp → Prop), Inv X pins σ H s → RelV v u → t v σ H Q →
    wpAny (model X.prog X.w) X.A (assign target X.env u) (fun _ s' => ∃ σ' H', Inv X pins σ' H' s' ∧ Q σ' H') X.xe s
/-- several targets, one after another -/
noncomputable def PGs (X : Cx) (ts : List Expr) (t : TGs) : Prop :=
  ∀ (pins : List (Addr × Obj)) (s : Shared) (σ : St) (H : Hp) (vs : List V) (us : List Value) (Q : St → Hp → Prop), Inv X pins σ H s → Vals vs us → t vs σ H Q →
    wpAny (model X.prog X.w) X.A (assignInOrder ((assignEach ts X.env).map (·.2)) us) (fun _ s' => ∃ σ' H', Inv X pins σ' H' s' ∧ Q σ' H') X.xe s
/-- o[i] = v, by values -/
noncomputable abbrev TSet := V → V → V → Hp → (Hp → Prop) → Prop
noncomputable def PSet (X : Cx) (t : TSet) : Prop :=
  ∀ (pins : List (Addr × Obj)) (s : Shared) (σ : St) (H : Hp) (o i v : V) (ov iv u : Value) (Q : Hp → Prop), Inv X pins σ H s → RelV o ov → RelV i iv → RelV v u → t o i v H Q →
    wpAny (model X.prog X.w) X.A (setItem ov iv u) (fun _ s' => ∃ H', Inv X pins σ H' s' ∧ Q H') X.xe s
section
variable {X : Cx} {pos : Pos}
noncomputable def gName (i : Nat) : TG := fun v σ H Q => Q (σ.set i (some v)) H
theorem pg_name {i : Nat} {x : Str} (hN : X.N.Nodup) (hi : X.N[i]? = some x) (hx : Loc X.env.scope x) (hf : X.fn x = true ∨ X.env.scope.names.lookup x = some .local := by first | exact .inl rfl | exact .inr rfl | assumption) : PG X (.Name x pos) (gName i) := by
  intro pins s σ H v u Q I r h
  exact wpAny_assign_Name (store_ok I hN hi hx r (fun s' I' => ⟨_, H, I', h⟩) hf)
noncomputable def gNil : TGs := fun vs σ H Q => vs = [] ∧ Q σ H
noncomputable def gCons (t : TG) (u : TGs) : TGs := fun vs σ H Q => ∃ v r, vs = v :: r ∧ t v σ H fun σ' H' => u r σ' H' Q
theorem pgs_nil : PGs X [] gNil := by
  intro pins s σ H vs us Q I r h
  obtain ⟨e, h⟩ := h
  subst e
  cases r
  exact assignInOrder_nil ⟨σ, H, I, h⟩
theorem pgs_cons {e : Expr} {es : List Expr} {t : TG} {u : TGs} (h1 : PG X e t) (h2 : PGs X es u)
    (hs : (assignEach (e :: es) X.env).map (·.2) = assign e X.env :: (assignEach es X.env).map (·.2) := by rfl) : PGs X (e :: es) (gCons t u) := by
  intro pins s σ H vs us Q I r h
  obtain ⟨v, vr, e1, h⟩ := h
  subst e1
  cases r with
  | cons r rr =>
    rw [hs]
    refine assignInOrder_cons (thn (h1 pins s σ H _ _ _ I r h) fun _ s1 ⟨σ1, H1, I1, q1⟩ => ?_)
    exact h2 pins s1 σ1 H1 _ _ Q I1 rr q1
/-- (a, b, ..) = a tuple of that length -/
noncomputable def gTup (K : PySem.W.Frag) (n : Nat) (t : TGs) : TG := fun v σ H Q => ∃ a xs, v = .ref a ∧ SqT K H a xs ∧ xs.length = n ∧ t xs σ H Q
theorem pg_tup {es : List Expr} {k : Nat} {t : TGs} {n : Nat} (hc : X.calm = true) (h : PGs X es t)
    (hn : (assignEach es X.env).length = n := by rfl) (hst : (assignEach es X.env).findIdx? (·.1) = none := by rfl) : PG X (.Tuple es k pos) (gTup X.K n t) := by
  intro pins s σ H v u Q I r hw
  obtain ⟨a, xs, e1, hq, hl, hw⟩ := hw
  subst e1
  cases r
  obtain ⟨its, rv, ht, hz⟩ := I.tuple hq
  refine assign_Tuple_tuple (I.ok.hd hc) ht (by simp [hn, ← hl, rv.length]) hst fun h' hx => ?_
  have I1 : Inv X pins σ H { s with heap := h' } := I.kept (t' := s.toks) fun b o e => hx b o (Nat.ne_of_lt (Heap.lt_size e)) e
  exact h pins _ σ H xs _ Q I1 (by simpa using rv) hw
/-- o[i] = .. -/
noncomputable def gSub (to ti : TE) (t : TSet) : TG := fun v σ H Q => to σ H fun o H1 => ti σ H1 fun i H2 => t o i v H2 fun H3 => Q σ H3
theorem pg_sub {o i : Expr} {to ti : TE} {t : TSet} (ho : PE X o to) (hi : PE X i ti) (hs : PSet X t)
    (ha : ∀ v, assign (.Subscript o i pos) X.env v = (do
      let ov ← holding [v] (eval o X.env)
      let iv ← holding [v, ov] (eval i X.env)
      standAt pos
      holding [v, ov, iv] (setItem ov iv v)
      release [v, ov, iv] []) := by intro _; rfl) : PG X (.Subscript o i pos) (gSub to ti t) := by
  intro pins s σ H v u Q I r h
  rw [ha]
  refine wpAny_bind (wpAny_holding (thn (ho pins s σ H _ I h) fun ov s1 ⟨x, H1, I1, r1, q1⟩ => ?_))
  refine wpAny_bind (wpAny_holding (thn (hi pins s1 σ H1 _ I1 q1) fun iv s2 ⟨y, H2, I2, r2, q2⟩ => ?_))
  refine wpAny_bind (wpAny_standAt (wpAny_bind (wpAny_holding (thn (hs pins s2 σ H2 x y v ov iv u _ I2 r1 r2 r q2) fun _ s3 ⟨H3, I3, q3⟩ => ?_))))
  exact wpAny_release ⟨σ, H3, I3, q3⟩
/-- target = value -/
noncomputable def tAsg (te : TE) (g : TG) : TS := fun D σ H => te σ H fun x H1 => g x σ H1 D.nx
theorem ps_asg {tg e : Expr} {te : TE} {g : TG} (he : PE X e te) (hg : PG X tg g) (hs : swapsWithSole [tg] e pos.line X.env = pure false := by rfl) (hw : swappedStores [tg] e X.env = pure none := by rfl)
    (h1 : (assignEach [tg] X.env).map (·.2) = [assign tg X.env] := by rfl) : PS X (.Assign [tg] e pos) (tAsg te g) := by
  intro pins s σ H D I h
  refine wpAny_Assign_stores (thn (he pins s σ H _ I h) fun v s1 ⟨x, H1, I1, r1, q1⟩ => ?_) hs hw
  rw [h1]
  exact thn (hg pins s1 σ H1 x v _ I1 r1 q1) fun _ s2 q => q
/-- name = value -/
theorem ps_set {i : Nat} {x : Str} {e : Expr} {te : TE} {pos' : Pos} (hN : X.N.Nodup) (hi : X.N[i]? = some x) (hx : Loc X.env.scope x) (he : PE X e te) (hs : swapsWith e (some (.Name x pos')) pos.line X.env = pure false := by rfl) (hf : X.fn x = true ∨ X.env.scope.names.lookup x = some .local := by first | exact .inl rfl | exact .inr rfl | assumption) :
    PS X (.Assign [.Name x pos'] e pos) (tAsg te (gName i)) := by
  intro pins s σ H D I h
  refine wpAny_Assign_Name (thn (he pins s σ H _ I h) fun v s1 ⟨y, H1, I1, r1, q1⟩ => ?_) hs
  exact store_ok I1 hN hi hx r1 (fun s2 I2 => ⟨_, H1, I2, q1⟩) hf
end

/-! ### while -/
section
variable {X : Cx} {pos : Pos}
/-- the invariant W with its measure -/
noncomputable def tWhile (c : TT) (tb : TS) : TS := fun D σ H => ∃ W : Nat → St → Hp → Prop, (∃ m, W m σ H) ∧ ∀ m σ H, W m σ H →
  c σ H fun b H1 => if b = true then ∃ N : St → Hp → Prop, (∀ σ' H', N σ' H' → ∃ m', m' < m ∧ W m' σ' H') ∧ tb { D with nx := N, ct := N, bk := D.nx } σ H1 else D.nx σ H1
theorem ps_while {c : Expr} {body : List Stmt} {tc : TT} {tb : TS} (hp : PassesOwn (model X.prog X.w) X.A X.env X.xe) (hc : PT X c tc) (hb : PSs X body tb) : PS X (.While c body [] pos) (tWhile tc tb) := by
  intro pins s σ H D I h
  obtain ⟨W, ⟨m0, w0⟩, turn⟩ := h
  refine wpAny_While (codeAny_whileLoop (fun n s' => ∃ σ' H', Inv X pins σ' H' s' ∧ W n σ' H') ?_ m0 ⟨σ, H, I, w0⟩)
  rintro n s1 ⟨σ1, H1, I1, w1⟩
  refine wpAny_passesOwn hp (thn (hc pins s1 σ1 H1 _ I1 (turn n σ1 H1 w1)) fun b s2 ⟨H2, I2, q2⟩ => ?_)
  cases b with
  | true =>
    obtain ⟨N, hN, q2⟩ := q2
    rw [if_pos rfl]
    refine wpAny_passesOwn hp (thn (hb pins s2 σ1 H2 _ I2 q2) fun f s3 q3 => ?_)
    cases f with
    | next =>
      obtain ⟨σ3, H3, I3, n3⟩ := q3
      obtain ⟨m', hm, w3⟩ := hN σ3 H3 n3
      exact ⟨m', hm, σ3, H3, I3, w3⟩
    | cont =>
      obtain ⟨σ3, H3, I3, n3⟩ := q3
      obtain ⟨m', hm, w3⟩ := hN σ3 H3 n3
      exact ⟨m', hm, σ3, H3, I3, w3⟩
    | brk => exact q3
    | ret v => exact q3
  | false =>
    rw [if_neg Bool.false_ne_true]
    exact wpAny_execs_nil ⟨σ1, H2, I2, q2⟩
end

/-! ### what a loop or a comprehension walks -/
/-- at turn i: it yields x (the heap may grow), or it stops -/
structure It where
  go : Nat → Hp → Prop
  yld : Nat → Hp → V → Hp → Prop
  stop : Nat → Hp → Prop
/-- the iterator's own objects may turn: they are not the frame's, not pinned, younger than the entry (or a comprehension's own) -/
noncomputable def FpOk (X : Cx) (pins : List (Addr × Obj)) (H : Hp) (b : Addr) : Prop :=
  H b = none ∧ b ≠ X.env.locals ∧ b ∉ X.fs ∧ (b ∈ X.ex ∨ X.s₀.heap.objs.size ≤ b) ∧ (∀ x c, X.env.cells.lookup x = some c → c ≠ b) ∧ ∀ p ∈ X.pn ++ pins, p.1 ≠ b
theorem Inv.fpOk {X : Cx} {pins : List (Addr × Obj)} {σ : St} {H H' : Hp} {s : Shared} {b : Addr} (I : Inv X pins σ H s) (hb : s.heap.objs.size ≤ b) (hn : H' b = none) : FpOk X pins H' b := by
  refine ⟨hn, Nat.ne_of_gt (Nat.lt_of_lt_of_le I.lt hb), I.nofs hb, .inr (Nat.le_trans I.sz hb), fun x c e z => ?_, fun p hp z => ?_⟩
  · obtain ⟨v, q⟩ := I.cell x c e
    exact absurd (Nat.lt_of_lt_of_le q.lt (by rw [z]; exact hb)) (Nat.lt_irrefl _)
  · exact absurd (Nat.lt_of_lt_of_le (Heap.lt_size (I.pin p hp).1) (by rw [z]; exact hb)) (Nat.lt_irrefl _)
structure Turn (P : Program) (w : World) (K : PySem.W.Frag) (tg : Expr) (J : It) (fp : List Addr) (it : Addr) (tn : Nat → Heap → Prop) : Prop where
  mem : it ∈ fp
  obj : ∀ i h, tn i h → ∀ b ∈ fp, ∃ o, h.get? b = some o ∧ ∀ v, o.data ≠ .cell v
  keep : ∀ i h h', tn i h → (∀ b ∈ fp, ∀ o, h.get? b = some o → h'.get? b = some o) → tn i h'
  item : ∀ (X : Cx), X.prog = P → X.w = w → X.K = K → X.calm = true → ∀ (i : Nat) (pins : List (Addr × Obj)) (s : Shared) (σ : St) (H : Hp) (E : Value → Shared → Prop), Inv X pins σ H s → (∀ b ∈ fp, FpOk X pins H b) → tn i s.heap → J.go i H →
    wpAny (model P w) X.A (pyNext (.ref it)) (fun r s1 => ∃ u, r = some u ∧
      wpAny (model P w) X.A (letOwnedTupleGo tg (.ref it) u) (fun _ s2 => ∃ x H', Inv X pins σ H' s2 ∧ RelV x u ∧ J.yld i H x H' ∧ tn (i + 1) s2.heap ∧ ∀ b ∈ fp, H' b = none) E s1) E s
  done : ∀ (X : Cx), X.prog = P → X.w = w → X.K = K → X.calm = true → ∀ (i : Nat) (pins : List (Addr × Obj)) (s : Shared) (σ : St) (H : Hp) (E : Value → Shared → Prop), Inv X pins σ H s → (∀ b ∈ fp, FpOk X pins H b) → tn i s.heap → J.stop i H →
    wpAny (model P w) X.A (pyNext (.ref it)) (fun r s1 => r = none ∧ Inv X pins σ H s1) E s
  self : ∀ (A : Around) (i : Nat) (s : Shared) (Q : Value → Shared → Prop) (E : Value → Shared → Prop), tn i s.heap → Q (.ref it) s → wpAny (model P w) A (pyIter (.ref it)) Q E s
noncomputable abbrev TI := St → Hp → (It → Hp → Prop) → Prop
/-- an iterator has come -/
noncomputable def PIE (X : Cx) (pins : List (Addr × Obj)) (σ : St) (tg : Expr) (R : It → Hp → Prop) (itv : Value) (s2 : Shared) : Prop :=
  ∃ (it : Addr) (fp : List Addr) (tn : Nat → Heap → Prop) (J : It) (H' : Hp), itv = .ref it ∧ Inv X pins σ H' s2 ∧ Turn X.prog X.w X.K tg J fp it tn ∧ tn 0 s2.heap ∧ (∀ b ∈ fp, FpOk X pins H' b) ∧ R J H'
noncomputable def PI (X : Cx) (tg iter : Expr) (wi : TI) : Prop :=
  ∀ (pins : List (Addr × Obj)) (s : Shared) (σ : St) (H : Hp) (R : It → Hp → Prop), Inv X pins σ H s → wi σ H R →
    wpAny (model X.prog X.w) X.A (eval iter X.env) (fun v s1 => wpAny (model X.prog X.w) X.A (pyIter v) (PIE X pins σ tg R) X.xe s1) X.xe s

/-- the step ahead of the store is nothing for an iterator that keeps no tuple -/
theorem go_of {M : Model} {A : Around} {E : Value → Shared → Prop} {s : Shared} {tg : Expr} {it : Addr} {u : Value} {o : Obj} {n : String} {vs : Array Value} {Q : Unit → Shared → Prop} (ho : s.heap.get? it = some o) (hc : o.cls = .type n) (hd : o.data = .fields vs)
    (hn : ["enumerate", "zip", "dict_itemiterator", "dict_reverseitemiterator", "odict_iterator", "itertools.zip_longest", "itertools.pairwise"].contains n = false) (hQ : Q () s) : wpAny M A (letOwnedTupleGo tg (.ref it) u) Q E s := by
  unfold letOwnedTupleGo
  cases tg <;> first
    | exact wpAny_pure hQ
    | (cases u <;> first
        | exact wpAny_pure hQ
        | (refine wpAny_bind (wpAny_load ho ?_)
           rw [hc, hd]
           show wpAny M A (if (["enumerate", "zip", "dict_itemiterator", "dict_reverseitemiterator", "odict_iterator", "itertools.zip_longest", "itertools.pairwise"].contains n && vs[0]? == some (rawInt _)) = true then _ else _) Q E s
           rw [if_neg (by intro h; rw [hn, Bool.false_and] at h; cases h)]
           exact wpAny_pure hQ))

/-- the list at a, as it stands at each turn (a loop may append to it) -/
noncomputable def Itl (K : PySem.W.Frag) (a : Addr) : It :=
  ⟨fun i H => ∃ xs x, SqL K H a xs ∧ xs[i]? = some x, fun i H x H' => H' = H ∧ ∀ xs, SqL K H a xs → xs[i]? = some x, fun i H => ∃ xs, SqL K H a xs ∧ xs.length ≤ i⟩
noncomputable def Itt (K : PySem.W.Frag) (a : Addr) : It :=
  ⟨fun i H => ∃ xs x, SqT K H a xs ∧ xs[i]? = some x, fun i H x H' => H' = H ∧ ∀ xs, SqT K H a xs → xs[i]? = some x, fun i H => ∃ xs, SqT K H a xs ∧ xs.length ≤ i⟩
/-- lo, lo + 1, .. (n of them) -/
noncomputable def Itr (lo : Int) (n : Nat) : It := ⟨fun i _ => i < n, fun i H x H' => H' = H ∧ x = .int (lo + i), fun i _ => n ≤ i⟩
theorem turn_list {P : Program} {w : World} {K : PySem.W.Frag} {tg : Expr} (a it : Addr) : Turn P w K tg (Itl K a) [it] it (fun i h => h.IsListIter it a i) where
  mem := by simp
  obj := fun i h st b hb => by
    have e : b = it := by simpa using hb
    subst e
    obtain ⟨o, e, c, d⟩ := st
    exact ⟨o, e, fun v z => by rw [d] at z; cases z⟩
  keep := fun i h h' st k => st.at fun o e => k it (by simp) o e
  item := by
    intro X hP hw hK hc i pins s σ H E I hf st hg
    subst hP hw hK
    obtain ⟨xs, x, hq, hx⟩ := hg
    obtain ⟨its, rv, p, hz⟩ := I.list hq
    obtain ⟨u, hu, ru⟩ := rv.get hx
    obtain ⟨f0, f1, f2, f3, f4, f5⟩ := hf it (by simp)
    refine wpAny_pyNext_list_item st p.isList (x := u) (by simpa using hu) fun h' st' sb => ?_
    have I1 : Inv X pins σ H { s with heap := h' } := I.turned (t' := s.toks) (fun b o hb e => (sb.2 b hb).trans e) f0 f1 f3 f4 f5
    obtain ⟨o, e, c, d⟩ := id st'
    exact ⟨u, rfl, go_of (s := { s with heap := h' }) e c d (by decide) ⟨x, H, I1, ru, ⟨rfl, fun ys hy => by rw [I.list_inj hy hq]; exact hx⟩, st', fun b hb => (hf b hb).1⟩⟩
  done := by
    intro X hP hw hK hc i pins s σ H E I hf st hg
    subst hP hw hK
    obtain ⟨xs, hq, hx⟩ := hg
    obtain ⟨its, rv, p, hz⟩ := I.list hq
    obtain ⟨f0, f1, f2, f3, f4, f5⟩ := hf it (by simp)
    have hl := rv.length
    exact wpAny_pyNext_list_end (I.ok.hd hc) st p.isList (by simp; omega) fun h' eb => ⟨rfl, I.turned (t' := s.toks) (fun b o hb e => eb b o hb e) f0 f1 f3 f4 f5⟩
  self := fun _ _ _ _ _ st h => wpAny_pyIter_listiter st h
theorem turn_tuple {P : Program} {w : World} {K : PySem.W.Frag} {tg : Expr} (a it : Addr) : Turn P w K tg (Itt K a) [it] it (fun i h => h.IsTupleIter it a i) where
  mem := by simp
  obj := fun i h st b hb => by
    have e : b = it := by simpa using hb
    subst e
    obtain ⟨o, e, c, d⟩ := st
    exact ⟨o, e, fun v z => by rw [d] at z; cases z⟩
  keep := fun i h h' st k => st.at fun o e => k it (by simp) o e
  item := by
    intro X hP hw hK hc i pins s σ H E I hf st hg
    subst hP hw hK
    obtain ⟨xs, x, hq, hx⟩ := hg
    obtain ⟨its, rv, p, hz⟩ := I.tuple hq
    obtain ⟨u, hu, ru⟩ := rv.get hx
    obtain ⟨f0, f1, f2, f3, f4, f5⟩ := hf it (by simp)
    refine wpAny_pyNext_tuple_item st (show s.heap.IsTuple a its.toArray from p) (x := u) (by simpa using hu) fun h' st' sb => ?_
    have I1 : Inv X pins σ H { s with heap := h' } := I.turned (t' := s.toks) (fun b o hb e => (sb.2 b hb).trans e) f0 f1 f3 f4 f5
    obtain ⟨o, e, c, d⟩ := id st'
    exact ⟨u, rfl, go_of (s := { s with heap := h' }) e c d (by decide) ⟨x, H, I1, ru, ⟨rfl, fun ys hy => by rw [I.tuple_inj hy hq]; exact hx⟩, st', fun b hb => (hf b hb).1⟩⟩
  done := by
    intro X hP hw hK hc i pins s σ H E I hf st hg
    subst hP hw hK
    obtain ⟨xs, hq, hx⟩ := hg
    obtain ⟨its, rv, p, hz⟩ := I.tuple hq
    obtain ⟨f0, f1, f2, f3, f4, f5⟩ := hf it (by simp)
    have hl := rv.length
    exact wpAny_pyNext_tuple_end (I.ok.hd hc) st (show s.heap.IsTuple a its.toArray from p) (by simp; omega) fun h' eb => ⟨rfl, I.turned (t' := s.toks) (fun b o hb e => eb b o hb e) f0 f1 f3 f4 f5⟩
  self := fun _ _ _ _ _ st h => wpAny_pyIter_tupleiter st h
theorem turn_range {P : Program} {w : World} {K : PySem.W.Frag} {tg : Expr} (it : Addr) (lo : Int) (n : Nat) : Turn P w K tg (Itr lo n) [it] it (fun i h => IsRangeIter h it (lo + (i : Nat) * 1) ((n : Int) - (i : Nat)) 1) where
  mem := by simp
  obj := fun i h st b hb => by
    have e : b = it := by simpa using hb
    subst e
    exact ⟨_, st, fun v z => by
      have z' : Data.fields _ = Data.cell v := z
      cases z'⟩
  keep := fun i h h' st k => k it (by simp) _ st
  item := by
    intro X hP hw hK hc i pins s σ H E I hf st hg
    subst hP hw hK
    obtain ⟨f0, f1, f2, f3, f4, f5⟩ := hf it (by simp)
    have W := Walks.range (prog := X.prog) (w := X.w) (I.ok.hd hc) it lo 1 n
    refine W.item i s _ _ hg st fun v h' tk hv st' kk => ?_
    obtain ⟨t, rfl⟩ := hv
    have I1 : Inv X pins σ H { s with heap := h', toks := tk } := I.turned (fun b o hb e => kk b o (by simpa using hb) e) f0 f1 f3 f4 f5
    refine ⟨_, rfl, go_of (s := { s with heap := h', toks := tk }) (n := "range_iterator") st' rfl rfl (by decide) ⟨.int (lo + i), H, I1, ⟨t, ?_⟩, ⟨rfl, rfl⟩, st', fun b hb => (hf b hb).1⟩⟩
    rw [Int.mul_one]
  done := by
    intro X hP hw hK hc i pins s σ H E I hf st hg
    subst hP hw hK
    obtain ⟨f0, f1, f2, f3, f4, f5⟩ := hf it (by simp)
    exact wpAny_pyNext_range_end (I.ok.hd hc) st (by have : n ≤ i := hg; omega) fun h' eb => ⟨rfl, I.turned (t' := s.toks) (fun b o hb e => eb b o hb e) f0 f1 f3 f4 f5⟩
  self := fun _ _ _ _ _ st h => wpAny_pyIter_rangeiter st h
end L2

namespace L2
open PySem PySem.Spec PyProof.Rows
section
variable {X : Cx} {tg : Expr}
noncomputable def iList (K : PySem.W.Frag) (tl : TE) : TI := fun σ H R => tl σ H fun x H1 => ∃ a, x = .ref a ∧ (∃ xs, SqL K H1 a xs) ∧ R (Itl K a) H1
noncomputable def iTup (K : PySem.W.Frag) (tl : TE) : TI := fun σ H R => tl σ H fun x H1 => ∃ a, x = .ref a ∧ (∃ xs, SqT K H1 a xs) ∧ R (Itt K a) H1
theorem pi_list {l : Expr} {tl : TE} (hl : PE X l tl) : PI X tg l (iList X.K tl) := by
  intro pins s σ H R I h
  refine thn (hl pins s σ H _ I h) fun v s1 ⟨x, H1, I1, r1, q1⟩ => ?_
  obtain ⟨a, e, ⟨xs, hq⟩, q⟩ := q1
  subst e
  cases r1
  obtain ⟨its, rv, p, hz⟩ := I1.list hq
  refine wpAny_pyIter_list p.isList ?_
  refine ⟨s1.heap.objs.size, [s1.heap.objs.size], _, _, H1, rfl, I1.kept (t' := s1.toks) fun b o e => Heap.get?_push_of_some _ e, turn_list a _, ⟨_, Heap.get?_push_size _ rfl, rfl, rfl⟩, fun b hb => ?_, q⟩
  have e : b = s1.heap.objs.size := by simpa using hb
  subst e
  exact I1.fpOk (Nat.le_refl _) (I1.hok.fresh (Nat.le_refl _))
theorem pi_tup {l : Expr} {tl : TE} (hl : PE X l tl) : PI X tg l (iTup X.K tl) := by
  intro pins s σ H R I h
  refine thn (hl pins s σ H _ I h) fun v s1 ⟨x, H1, I1, r1, q1⟩ => ?_
  obtain ⟨a, e, ⟨xs, hq⟩, q⟩ := q1
  subst e
  cases r1
  obtain ⟨its, rv, p, hz⟩ := I1.tuple hq
  refine wpAny_pyIter_tuple (show s1.heap.IsTuple a its.toArray from p) ?_
  refine ⟨s1.heap.objs.size, [s1.heap.objs.size], _, _, H1, rfl, I1.kept (t' := s1.toks) fun b o e => Heap.get?_push_of_some _ e, turn_tuple a _, ⟨_, Heap.get?_push_size _ rfl, rfl, rfl⟩, fun b hb => ?_, q⟩
  have e : b = s1.heap.objs.size := by simpa using hb
  subst e
  exact I1.fpOk (Nat.le_refl _) (I1.hok.fresh (Nat.le_refl _))
/-- a range object just made, walked -/
theorem range_it {pins : List (Addr × Obj)} {σ : St} {H : Hp} {s : Shared} {R : It → Hp → Prop} {E : Value → Shared → Prop} {lo hi : Int} {t u v : Tok} {tk : Nat} (I : Inv X pins σ H s) (h1 : -(2 ^ 62) ≤ lo) (h2 : lo < 2 ^ 62) (h3 : -(2 ^ 62) ≤ hi) (h4 : hi < 2 ^ 62)
    (q : R (Itr lo (hi - lo).toNat) H) : wpAny (model X.prog X.w) X.A (pyIter (.ref s.heap.objs.size)) (PIE X pins σ tg R) E { s with heap := s.heap.push { cls := .type "range", data := .fields #[.int lo t, .int hi u, .int 1 v] }, toks := tk } := by
  refine wpAny_pyIter_range (IsRange.new ..) (small_one h1 h2 h3 h4) ?_
  have I1 : Inv X pins σ H { s with heap := s.heap.push { cls := .type "range", data := .fields #[.int lo t, .int hi u, .int 1 v] }, toks := tk } := I.kept fun b o e => Heap.get?_push_of_some _ e
  refine ⟨(s.heap.push { cls := .type "range", data := .fields #[.int lo t, .int hi u, .int 1 v] }).objs.size, [(s.heap.push { cls := .type "range", data := .fields #[.int lo t, .int hi u, .int 1 v] }).objs.size], _, _, H, rfl,
    I1.kept (t' := tk) fun b o e => Heap.get?_push_of_some _ e, turn_range _ lo (hi - lo).toNat, ?_, fun b hb => ?_, q⟩
  · have e1 : lo + ((0 : Nat) : Int) * 1 = lo := by simp
    have e2 : (((hi - lo).toNat : Nat) : Int) - ((0 : Nat) : Int) = Builtin.Range.rangeSize lo hi 1 := by rw [rangeSize_one]; split <;> omega
    show IsRangeIter _ _ (lo + ((0 : Nat) : Int) * 1) ((((hi - lo).toNat : Nat) : Int) - ((0 : Nat) : Int)) 1
    rw [e1, e2]
    exact Heap.get?_push_size _ rfl
  · have e : b = (s.heap.push { cls := .type "range", data := .fields #[.int lo t, .int hi u, .int 1 v] }).objs.size := by simpa using hb
    subst e
    exact I1.fpOk (Nat.le_refl _) (I1.hok.fresh (Nat.le_refl _))
noncomputable def iRng1 (ta : TA) : TI := fun σ H R => ta σ H fun vs H1 => ∃ j : Int, vs = [.int j] ∧ -(2 ^ 62) ≤ j ∧ j < 2 ^ 62 ∧ R (Itr 0 j.toNat) H1
theorem pi_range1 {a : Expr} {ta : TA} {p pos : Pos} (hg : Gl X "range") (hm : X.mg "range" = none) (ha : PA X [a] ta) (hs : starEach [a] X.env = [(false, eval a X.env)] := by rfl) : PI X tg (.Call (.Name "range" p) [a] [] pos) (iRng1 ta) := by
  intro pins s σ H R I h
  refine Call_ (ld_blt I hg hm boot_range (PyProof.Rows.callWith_type1 (thn (ha pos pins s σ H _ I h) fun us s1 ⟨vs, H1, I1, r1, q1⟩ => ?_) hs rfl))
  obtain ⟨j, e, q1, q2, q⟩ := q1
  subst e
  cases r1 with
  | cons r rr =>
    cases rr
    obtain ⟨t, rfl⟩ := r
    exact call_range_1 (range_it I1 (by omega) (by omega) q1 q2 (by simpa using q))

/-! ### for -/
/-- W: the invariant by the turn and a measure; N: what the body is to reach -/
noncomputable def tFor (wi : TI) (g : TG) (tb : TS) : TS := fun D σ H => wi σ H fun J H1 => ∃ W : Nat → Nat → St → Hp → Prop, (∃ m, W 0 m σ H1) ∧ ∀ i m σ H, W i m σ H →
  (J.stop i H ∧ D.nx σ H) ∨ (J.go i H ∧ ∃ N : St → Hp → Prop, (∀ σ' H', N σ' H' → ∃ m', m' < m ∧ W (i + 1) m' σ' H') ∧ ∀ x H', J.yld i H x H' → g x σ H' fun σ2 H2 => tb { D with nx := N, ct := N, bk := D.nx } σ2 H2)
/-- the records at fp as they stand -/
noncomputable def pinsAt (fp : List Addr) (h : Heap) : List (Addr × Obj) := fp.filterMap fun b => (h.get? b).map fun o => (b, o)
theorem mem_pinsAt {fp : List Addr} {h : Heap} {b : Addr} {o : Obj} (hb : b ∈ fp) (e : h.get? b = some o) : (b, o) ∈ pinsAt fp h := List.mem_filterMap.mpr ⟨b, hb, by rw [e]; rfl⟩
theorem of_pinsAt {fp : List Addr} {h : Heap} {p : Addr × Obj} (hp : p ∈ pinsAt fp h) : p.1 ∈ fp ∧ h.get? p.1 = some p.2 := by
  obtain ⟨b, hb, e⟩ := List.mem_filterMap.mp hp
  cases q : h.get? b with
  | none => rw [q] at e; cases e
  | some o =>
    rw [q] at e
    have e' : (b, o) = p := Option.some.inj e
    subst e'
    exact ⟨hb, q⟩
theorem Inv.pinned {pins : List (Addr × Obj)} {σ : St} {H : Hp} {s : Shared} {fp : List Addr} (I : Inv X pins σ H s) (hf : ∀ b ∈ fp, FpOk X pins H b) (ho : ∀ b ∈ fp, ∃ o, s.heap.get? b = some o ∧ ∀ v, o.data ≠ .cell v) : Inv X (pins ++ pinsAt fp s.heap) σ H s :=
  I.pins_of fun p hp => (List.mem_append.mp hp).elim (fun z => I.pin p (List.mem_append_right _ z)) fun z => by
    obtain ⟨hb, e⟩ := of_pinsAt z
    obtain ⟨f0, f1, f2, _⟩ := hf p.1 hb
    obtain ⟨o, e', d⟩ := ho p.1 hb
    rw [e] at e'; cases e'
    exact ⟨e, f0, f1, f2, d⟩
theorem Inv.unpinned {pins pl : List (Addr × Obj)} {σ : St} {H : Hp} {s : Shared} (I : Inv X (pins ++ pl) σ H s) : Inv X pins σ H s := I.pins_of fun p hp => I.pin p (List.mem_append_right _ (List.mem_append_left _ hp))
theorem ps_for {iter : Expr} {body : List Stmt} {wi : TI} {g : TG} {tb : TS} {pos : Pos} (hp : PassesOwn (model X.prog X.w) X.A X.env X.xe) (hc : X.calm = true) (hi : PI X tg iter wi) (hg : PG X tg g) (hb : PSs X body tb)
    (hs : ∀ x, foldedSetIterable iter X.env x = pure x := by intro _; rfl) : PS X (.For tg iter body [] pos) (tFor wi g tb) := by
  intro pins s σ H D I h
  refine wpAny_For (thn (hi pins s σ H _ I h) fun v s1 h1 => thn h1 fun itv s2 h2 => ?_) hs
  obtain ⟨it, fp, tn, J, H2, e, I2, T, st2, f2, W, ⟨m0, w0⟩, turn⟩ := h2
  subst e
  -- what stays true of the iterator's objects through the loop
  have stat : ∀ {H' : Hp}, (∀ b ∈ fp, H' b = none) → ∀ b ∈ fp, FpOk X pins H' b := fun hn b hb => ⟨hn b hb, (f2 b hb).2⟩
  refine codeAny_forLoop_any (fun n s' => ∃ i σ' H', Inv X pins σ' H' s' ∧ tn i s'.heap ∧ (∀ b ∈ fp, H' b = none) ∧ W i n σ' H') ?_ m0 ⟨0, σ, H2, I2, st2, fun b hb => (f2 b hb).1, w0⟩
  rintro n s3 ⟨i, σ3, H3, I3, st3, fr3, w3⟩
  rcases turn i n σ3 H3 w3 with ⟨stop, qn⟩ | ⟨go, N, hN, step⟩
  · refine wpAny_passesOwn hp (thn (T.done X rfl rfl rfl hc i pins s3 σ3 H3 X.xe I3 (stat fr3) st3 stop) fun r s4 ⟨hr, I4⟩ => ?_)
    subst hr
    exact wpAny_execs_nil ⟨σ3, H3, I4, qn⟩
  · refine wpAny_passesOwn hp (thn (T.item X rfl rfl rfl hc i pins s3 σ3 H3 X.xe I3 (stat fr3) st3 go) fun r s4 ⟨u, hr, h4⟩ => ?_)
    subst hr
    refine wpAny_passesOwn hp (thn h4 fun _ s5 ⟨x, H5, I5, r5, y5, st5, fr5⟩ => ?_)
    have I5' := I5.pinned (stat fr5) (T.obj _ _ st5)
    refine wpAny_passesOwn hp (thn (hg _ s5 σ3 H5 x u _ I5' r5 (step x H5 y5)) fun _ s6 ⟨σ6, H6, I6, q6⟩ => ?_)
    refine wpAny_passesOwn hp (thn (hb _ s6 σ6 H6 _ I6 q6) fun f s7 q7 => ?_)
    have again : ∀ {σ7 : St} {H7 : Hp}, Inv X (pins ++ pinsAt fp s5.heap) σ7 H7 s7 → N σ7 H7 → ∃ m, m < n ∧ ∃ i σ' H', Inv X pins σ' H' s7 ∧ tn i s7.heap ∧ (∀ b ∈ fp, H' b = none) ∧ W i m σ' H' := fun {σ7 H7} I7 n7 => by
      obtain ⟨m', hm, w7⟩ := hN σ7 H7 n7
      refine ⟨m', hm, i + 1, σ7, H7, I7.unpinned, T.keep _ _ _ st5 fun b hb o e => (I7.pin (b, o) (List.mem_append_right _ (List.mem_append_right _ (mem_pinsAt hb e)))).1, fun b hb => ?_, w7⟩
      obtain ⟨o, e, d⟩ := T.obj _ _ st5 b hb
      exact (I7.pin (b, o) (List.mem_append_right _ (List.mem_append_right _ (mem_pinsAt hb e)))).2.1
    cases f with
    | next => obtain ⟨σ7, H7, I7, n7⟩ := q7; exact again I7 n7
    | cont => obtain ⟨σ7, H7, I7, n7⟩ := q7; exact again I7 n7
    | brk => obtain ⟨σ7, H7, I7, q7⟩ := q7; exact ⟨σ7, H7, I7.unpinned, q7⟩
    | ret v => obtain ⟨x7, σ7, H7, I7, r7, q7⟩ := q7; exact ⟨x7, σ7, H7, I7.unpinned, r7, q7⟩
end

/-! ### the forms one uses -/
theorem for_tup {K : PySem.W.Frag} {a : Addr} {xs : List V} {g : TG} {tb : TS} {D : Ends} {σ : St} {H : Hp} (Pv : Nat → St → Hp → Prop) (h0 : Pv 0 σ H) (hl : ∀ i σ H, i ≤ xs.length → Pv i σ H → SqT K H a xs)
    (hs : ∀ i x σ H, xs[i]? = some x → Pv i σ H → g x σ H fun σ2 H2 => tb { D with nx := Pv (i + 1), ct := Pv (i + 1), bk := D.nx } σ2 H2) (hd : ∀ σ H, Pv xs.length σ H → D.nx σ H) :
    ∃ W : Nat → Nat → St → Hp → Prop, (∃ m, W 0 m σ H) ∧ ∀ i m σ H, W i m σ H →
      ((Itt K a).stop i H ∧ D.nx σ H) ∨ ((Itt K a).go i H ∧ ∃ N : St → Hp → Prop, (∀ σ' H', N σ' H' → ∃ m', m' < m ∧ W (i + 1) m' σ' H') ∧ ∀ x H', (Itt K a).yld i H x H' → g x σ H' fun σ2 H2 => tb { D with nx := N, ct := N, bk := D.nx } σ2 H2) := by
  refine ⟨fun i m σ H => m = xs.length - i ∧ i ≤ xs.length ∧ Pv i σ H, ⟨xs.length, by simp, Nat.zero_le _, h0⟩, ?_⟩
  rintro i m σ H ⟨rfl, hi, p⟩
  have q := hl i σ H hi p
  by_cases hlt : i < xs.length
  · refine .inr ⟨⟨xs, xs[i], q, by simp [hlt]⟩, Pv (i + 1), fun σ' H' p' => ⟨xs.length - (i + 1), by omega, rfl, hlt, p'⟩, fun x H' y => ?_⟩
    obtain ⟨e, y⟩ := y
    subst e
    exact hs i x σ _ (y xs q) p
  · have e : i = xs.length := by omega
    subst e
    exact .inl ⟨⟨xs, q, Nat.le_refl _⟩, hd σ H p⟩
theorem for_range {lo : Int} {n : Nat} {g : TG} {tb : TS} {D : Ends} {σ : St} {H : Hp} (Pv : Nat → St → Hp → Prop) (h0 : Pv 0 σ H)
    (hs : ∀ i σ H, i < n → Pv i σ H → g (.int (lo + i)) σ H fun σ2 H2 => tb { D with nx := Pv (i + 1), ct := Pv (i + 1), bk := D.nx } σ2 H2) (hd : ∀ σ H, Pv n σ H → D.nx σ H) :
    ∃ W : Nat → Nat → St → Hp → Prop, (∃ m, W 0 m σ H) ∧ ∀ i m σ H, W i m σ H →
      ((Itr lo n).stop i H ∧ D.nx σ H) ∨ ((Itr lo n).go i H ∧ ∃ N : St → Hp → Prop, (∀ σ' H', N σ' H' → ∃ m', m' < m ∧ W (i + 1) m' σ' H') ∧ ∀ x H', (Itr lo n).yld i H x H' → g x σ H' fun σ2 H2 => tb { D with nx := N, ct := N, bk := D.nx } σ2 H2) := by
  refine ⟨fun i m σ H => m = n - i ∧ i ≤ n ∧ Pv i σ H, ⟨n, by simp, Nat.zero_le _, h0⟩, ?_⟩
  rintro i m σ H ⟨rfl, hi, p⟩
  by_cases hlt : i < n
  · refine .inr ⟨hlt, Pv (i + 1), fun σ' H' p' => ⟨n - (i + 1), by omega, rfl, hlt, p'⟩, fun x H' y => ?_⟩
    obtain ⟨e, y⟩ := y
    subst e y
    exact hs i σ _ hlt p
  · have e : i = n := by omega
    subst e
    exact .inl ⟨Nat.le_refl _, hd σ H p⟩
end L2

namespace L2
open PySem PySem.Spec PyProof.Rows

noncomputable abbrev R2 := V → V → Hp → VK → Prop
/-- a two-place operation on values: f is binaryOp op, inplaceOp op or compareOp op -/
noncomputable def OpR (X : Cx) (f : Value → Value → Sem Value) (r : R2) : Prop :=
  ∀ (pins : List (Addr × Obj)) (s : Shared) (σ : St) (H : Hp) (x y : V) (v u : Value) (Q : VK), Inv X pins σ H s → RelV x v → RelV y u → r x y H Q →
    wpAny (model X.prog X.w) X.A (f v u) (EP X pins σ Q) X.xe s
/-- a call of a value that is known (a builtin, a type) with values -/
noncomputable def CallR (X : Cx) (f : Value) (r : List V → Hp → VK → Prop) : Prop :=
  ∀ (pins : List (Addr × Obj)) (s : Shared) (σ : St) (H : Hp) (xs : List V) (us : List Value) (Q : VK), Inv X pins σ H s → Vals xs us → r xs H Q →
    wpAny (model X.prog X.w) X.A (call f us) (EP X pins σ Q) X.xe s
/-- a value's truth -/
noncomputable def TruR (X : Cx) (r : V → Hp → (Bool → Hp → Prop) → Prop) : Prop :=
  ∀ (pins : List (Addr × Obj)) (s : Shared) (σ : St) (H : Hp) (x : V) (v : Value) (Q : Bool → Hp → Prop), Inv X pins σ H s → RelV x v → r x H Q →
    wpAny (model X.prog X.w) X.A (truthy v) (TP X pins σ Q) X.xe s

noncomputable def tOp (r : R2) (ta tb : TE) : TE := fun σ H Q => ta σ H fun x H1 => tb σ H1 fun y H2 => r x y H2 Q
/-- ints in, under C, and a value out -/
noncomputable def rI (C : Int → Int → Prop) (g : Int → Int → V) : R2 := fun x y H Q => ∃ i j, x = .int i ∧ y = .int j ∧ C i j ∧ Q (g i j) H
noncomputable def rI0 (g : Int → Int → V) : R2 := fun x y H Q => ∃ i j, x = .int i ∧ y = .int j ∧ Q (g i j) H

section
variable {X : Cx} {a b c : Expr} {ta tb tc : TE} {pos : Pos}

theorem binT (ha : PE X a ta) (hb : PE X b tb) {pins : List (Addr × Obj)} {s : Shared} {σ : St} {H : Hp} {R : V → V → Hp → Prop} (I : Inv X pins σ H s)
    (h : ta σ H fun x H1 => tb σ H1 fun y H2 => R x y H2) {Q : Value → Shared → Prop} {f : Value → Value → Sem Value}
    (hf : ∀ v u s2 x y H2, Inv X pins σ H2 s2 → RelV x v → RelV y u → R x y H2 → wpAny (model X.prog X.w) X.A (f v u) Q X.xe s2) :
    wpAny (model X.prog X.w) X.A (eval a X.env) (fun v s₁ => wpAny (model X.prog X.w) X.A (eval b X.env) (fun u s₂ => wpAny (model X.prog X.w) X.A (f v u) Q X.xe s₂) X.xe s₁) X.xe s := by
  refine thn (ha pins s σ H _ I h) fun v s1 ⟨x, H1, I1, r1, q1⟩ => ?_
  refine thn (hb pins s1 σ H1 _ I1 q1) fun u s2 ⟨y, H2, I2, r2, q2⟩ => ?_
  exact hf v u s2 x y H2 I2 r1 r2 q2

theorem pe_op {op : Operator} {r : R2} (ho : OpR X (binaryOp op) r) (ha : PE X a ta) (hb : PE X b tb) : PE X (.BinOp a op b pos) (tOp r ta tb) := by
  intro pins s σ H Q I h
  exact wpAny_BinOp (binT ha hb I h fun v u s2 x y H2 I2 rx ry q => ho pins s2 σ H2 x y v u Q I2 rx ry q)

/-! ### ints -/
theorem opI {f : Value → Value → Sem Value} {C : Int → Int → Prop} {g : Int → Int → Int}
    (rule : ∀ (i j : Int) (t u : Tok) (s : Shared) (Q : Value → Shared → Prop) (E : Value → Shared → Prop), C i j → Q (.int (g i j) s.toks) { s with toks := s.toks + 1 } → wpAny (model X.prog X.w) X.A (f (.int i t) (.int j u)) Q E s) :
    OpR X f (rI C fun i j => .int (g i j)) := by
  intro pins s σ H x y v u Q I rx ry h
  obtain ⟨i, j, rfl, rfl, hc, q⟩ := h
  obtain ⟨t, rfl⟩ := rx
  obtain ⟨t', rfl⟩ := ry
  exact rule i j t t' s _ _ hc ⟨.int (g i j), H, I.tok _, ⟨_, rfl⟩, q⟩
theorem opI0 {f : Value → Value → Sem Value} {g : Int → Int → Int}
    (rule : ∀ (i j : Int) (t u : Tok) (s : Shared) (Q : Value → Shared → Prop) (E : Value → Shared → Prop), Q (.int (g i j) s.toks) { s with toks := s.toks + 1 } → wpAny (model X.prog X.w) X.A (f (.int i t) (.int j u)) Q E s) :
    OpR X f (rI0 fun i j => .int (g i j)) := by
  intro pins s σ H x y v u Q I rx ry h
  obtain ⟨i, j, rfl, rfl, q⟩ := h
  obtain ⟨t, rfl⟩ := rx
  obtain ⟨t', rfl⟩ := ry
  exact rule i j t t' s _ _ ⟨.int (g i j), H, I.tok _, ⟨_, rfl⟩, q⟩
theorem opB0 {f : Value → Value → Sem Value} {g : Int → Int → Bool}
    (rule : ∀ (i j : Int) (t u : Tok) (s : Shared) (Q : Value → Shared → Prop) (E : Value → Shared → Prop), Q (.bool (g i j)) s → wpAny (model X.prog X.w) X.A (f (.int i t) (.int j u)) Q E s) :
    OpR X f (rI0 fun i j => .bl (g i j)) := by
  intro pins s σ H x y v u Q I rx ry h
  obtain ⟨i, j, rfl, rfl, q⟩ := h
  obtain ⟨t, rfl⟩ := rx
  obtain ⟨t', rfl⟩ := ry
  exact rule i j t t' s _ _ ⟨.bl (g i j), H, I, rfl, q⟩

noncomputable def CPow (i j : Int) : Prop := 0 ≤ j ∧ j ≤ 1000000 ∧ i.natAbs < 2 ^ 64
noncomputable def CMul (i j : Int) : Prop := (-(2 ^ 64) < i ∧ i < 2 ^ 64) ∨ (-(2 ^ 64) < j ∧ j < 2 ^ 64)
theorem CMul.ok {i j : Int} (h : CMul i j) : IntMulOk i j := by
  rcases h with ⟨h1, h2⟩ | ⟨h1, h2⟩
  · exact .of_left (intBits_le_64 h1 h2)
  · exact .of_right (intBits_le_64 h1 h2)

theorem op_add : OpR X (binaryOp .Add) (rI0 fun i j => .int (i + j)) := opI0 fun _ _ _ _ _ _ _ q => add_int q
theorem op_sub : OpR X (binaryOp .Sub) (rI0 fun i j => .int (i - j)) := opI0 fun _ _ _ _ _ _ _ q => sub_int q
theorem op_mul : OpR X (binaryOp .Mult) (rI CMul fun i j => .int (i * j)) := opI fun _ _ _ _ _ _ _ hc q => mul_int q hc.ok
/-- % by a positive divisor of any size -/
theorem op_mod : OpR X (binaryOp .Mod) (rI (fun _ j => 0 < j) fun i j => .int (i % j)) := opI fun i j _ _ _ _ _ hc q => by
  have h1 : (0 : Int) < j := hc
  exact mod_int' (by omega) (by rw [Int.fmod_eq_emod_of_nonneg i (by omega)]; exact q)
theorem op_pow : OpR X (binaryOp .Pow) (rI CPow fun i j => .int (i ^ j.toNat)) := opI fun _ _ _ _ _ _ _ hc q => pow_int_small hc.1 hc.2.1 hc.2.2 q



/-! ### bools among ints: n += (a < b) -/
end

/-! ### comparisons -/
/-- the scalars that == tells apart as data does -/
noncomputable def scal : V → V → Bool
  | .non, .non => true | .non, .int _ => true | .int _, .non => true | .non, .bl _ => true | .bl _, .non => true | .non, .str _ => true | .str _, .non => true
  | .int _, .int _ => true | .bl _, .bl _ => true | .str _, .str _ => true | .byt _, .byt _ => true
  | .int _, .str _ => true | .str _, .int _ => true | .bl _, .str _ => true | .str _, .bl _ => true
  | _, _ => false
noncomputable def rEq : R2 := fun x y H Q => scal x y = true ∧ Q (.bl (decide (x = y))) H
noncomputable def rNe : R2 := fun x y H Q => scal x y = true ∧ Q (.bl (!decide (x = y))) H

theorem dec_int {i j : Int} : decide (V.int i = V.int j) = (i == j) := by
  rw [Bool.eq_iff_iff]
  simp
theorem dec_bl {i j : Bool} : decide (V.bl i = V.bl j) = (i == j) := by
  rw [Bool.eq_iff_iff]
  simp
theorem dec_str {i j : Str} : decide (V.str i = V.str j) = (i == j) := by
  rw [Bool.eq_iff_iff]
  simp
theorem dec_byt {i j : Array UInt8} : decide (V.byt i = V.byt j) = (i.toList == j.toList) := by
  rw [Bool.eq_iff_iff]
  cases i
  cases j
  simp

section
variable {X : Cx} {a b c : Expr} {ta tb tc : TE} {pos : Pos}
theorem fin_bl {pins : List (Addr × Obj)} {σ : St} {H : Hp} {s : Shared} {Q : VK} {k k' : Bool} (I : Inv X pins σ H s) (q : Q (.bl k) H) (e : k = k') : EP X pins σ Q (.bool k') s := by
  subst e
  exact ⟨.bl k, H, I, rfl, q⟩
theorem op_eq : OpR X (compareOp .Eq) rEq := by
  intro pins s σ H x y v u Q I rx ry h
  obtain ⟨hs, q⟩ := h
  cases x with
  | non =>
    cases rx
    cases y with
    | non => cases ry; exact PySem.EqNone.eq_none_none (fin_bl I q (by simp))
    | bl j => cases ry; exact PySem.EqNone.eq_none_bool (fin_bl I q (by simp))
    | int j => obtain ⟨t', rfl⟩ := ry; exact PySem.EqNone.eq_none_int (fin_bl I q (by simp))
    | str j => obtain ⟨t', rfl⟩ := ry; exact PySem.EqNone.eq_none_str (fin_bl I q (by simp))
    | _ => exact absurd (show false = true from hs) Bool.false_ne_true
  | bl i =>
    cases rx
    cases y with
    | non => cases ry; exact PySem.EqNone.eq_bool_none (fin_bl I q (by simp))
    | bl j => cases ry; exact eq_bool (fin_bl I q dec_bl)
    | str j => obtain ⟨t', rfl⟩ := ry; exact PySem.EqMixed.eq_bool_str (fin_bl I q (by simp))
    | _ => exact absurd (show false = true from hs) Bool.false_ne_true
  | int i =>
    obtain ⟨t, rfl⟩ := rx
    cases y with
    | non => cases ry; exact PySem.EqNone.eq_int_none (fin_bl I q (by simp))
    | int j => obtain ⟨t', rfl⟩ := ry; exact eq_int (fin_bl I q dec_int)
    | str j => obtain ⟨t', rfl⟩ := ry; exact PySem.EqMixed.eq_int_str (fin_bl I q (by simp))
    | _ => exact absurd (show false = true from hs) Bool.false_ne_true
  | str i =>
    obtain ⟨t, rfl⟩ := rx
    cases y with
    | non => cases ry; exact PySem.EqNone.eq_str_none (fin_bl I q (by simp))
    | bl j => cases ry; exact PySem.EqMixed.eq_str_bool (fin_bl I q (by simp))
    | int j => obtain ⟨t', rfl⟩ := ry; exact PySem.EqMixed.eq_str_int (fin_bl I q (by simp))
    | str j => obtain ⟨t', rfl⟩ := ry; exact eq_str (fin_bl I q dec_str)
    | _ => exact absurd (show false = true from hs) Bool.false_ne_true
  | byt i =>
    obtain ⟨t, rfl⟩ := rx
    cases y with
    | byt j => obtain ⟨t', rfl⟩ := ry; exact PySem.W.eq_bytes (fin_bl I q dec_byt)
    | _ => exact absurd (show false = true from hs) Bool.false_ne_true
  | _ => cases y <;> exact absurd (show false = true from hs) Bool.false_ne_true
theorem op_ne : OpR X (compareOp .NotEq) rNe := by
  intro pins s σ H x y v u Q I rx ry h
  obtain ⟨hs, q⟩ := h
  cases x with
  | non =>
    cases rx
    cases y with
    | non => cases ry; exact PySem.EqNone.ne_none_none (fin_bl I q (by simp))
    | bl j => cases ry; exact PySem.EqNone.ne_none_bool (fin_bl I q (by simp))
    | int j => obtain ⟨t', rfl⟩ := ry; exact PySem.EqNone.ne_none_int (fin_bl I q (by simp))
    | str j => obtain ⟨t', rfl⟩ := ry; exact PySem.EqNone.ne_none_str (fin_bl I q (by simp))
    | _ => exact absurd (show false = true from hs) Bool.false_ne_true
  | bl i =>
    cases rx
    cases y with
    | non => cases ry; exact PySem.EqNone.ne_bool_none (fin_bl I q (by simp))
    | bl j => cases ry; exact ne_bool (fin_bl I q (congrArg not dec_bl))
    | str j => obtain ⟨t', rfl⟩ := ry; exact PySem.EqMixed.ne_bool_str (fin_bl I q (by simp))
    | _ => exact absurd (show false = true from hs) Bool.false_ne_true
  | int i =>
    obtain ⟨t, rfl⟩ := rx
    cases y with
    | non => cases ry; exact PySem.EqNone.ne_int_none (fin_bl I q (by simp))
    | int j => obtain ⟨t', rfl⟩ := ry; exact ne_int (fin_bl I q (congrArg not dec_int))
    | str j => obtain ⟨t', rfl⟩ := ry; exact PySem.EqMixed.ne_int_str (fin_bl I q (by simp))
    | _ => exact absurd (show false = true from hs) Bool.false_ne_true
  | str i =>
    obtain ⟨t, rfl⟩ := rx
    cases y with
    | non => cases ry; exact PySem.EqNone.ne_str_none (fin_bl I q (by simp))
    | bl j => cases ry; exact PySem.EqMixed.ne_str_bool (fin_bl I q (by simp))
    | int j => obtain ⟨t', rfl⟩ := ry; exact PySem.EqMixed.ne_str_int (fin_bl I q (by simp))
    | str j => obtain ⟨t', rfl⟩ := ry; exact ne_str (fin_bl I q (congrArg not dec_str))
    | _ => exact absurd (show false = true from hs) Bool.false_ne_true
  | byt i =>
    obtain ⟨t, rfl⟩ := rx
    cases y with
    | byt j => obtain ⟨t', rfl⟩ := ry; exact PySem.W.ne_bytes (fin_bl I q (congrArg not dec_byt))
    | _ => exact absurd (show false = true from hs) Bool.false_ne_true
  | _ => cases y <;> exact absurd (show false = true from hs) Bool.false_ne_true

theorem op_lt : OpR X (compareOp .Lt) (rI0 fun i j => .bl (decide (i < j))) := opB0 fun _ _ _ _ _ _ _ q => lt_int q
theorem op_le : OpR X (compareOp .LtE) (rI0 fun i j => .bl (decide (i ≤ j))) := opB0 fun _ _ _ _ _ _ _ q => le_int q
theorem op_gt : OpR X (compareOp .Gt) (rI0 fun i j => .bl (decide (j < i))) := opB0 fun _ _ _ _ _ _ _ q => gt_int q
/-- the one string within the other -/
theorem op_in_str : OpR X (compareOp .In) (fun x y H Q => ∃ i j, x = .str i ∧ y = .str j ∧ Q (.bl (!(Builtin.Str.occurrences j i 0 j.length 1).isEmpty)) H) := by
  intro pins s σ H x y v u Q I rx ry h
  obtain ⟨i, j, rfl, rfl, q⟩ := h
  obtain ⟨t, rfl⟩ := rx
  obtain ⟨t', rfl⟩ := ry
  exact in_str (fin_bl I q rfl)

/-- is None, is not None: the right side a value none -/
theorem op_isN : OpR X (compareOp .Is) (fun x y H Q => y = .non ∧ Q (.bl (decide (x = .non))) H) := by
  intro pins s σ H x y v u Q I rx ry h
  obtain ⟨rfl, q⟩ := h
  cases ry
  refine is_none_gen (fin_bl I q ?_)
  cases x <;> first
    | (cases rx; rfl)
    | (obtain ⟨t, rfl⟩ := rx; rfl)



theorem nomark (b : Expr) {op : CmpOp} (h : op ≠ .In := by decide) (h2 : op ≠ .NotIn := by decide) : behindInMarks op b = false := by
  have e1 : (op == CmpOp.In) = false := by cases op <;> first | rfl | exact absurd rfl h
  have e2 : (op == CmpOp.NotIn) = false := by cases op <;> first | rfl | exact absurd rfl h2
  cases b <;> simp [behindInMarks, e1, e2]
/-- a comparison as a value; hm: nomark b, or (for in, not in) by with_unfolding_all rfl -/
theorem pe_cmpR {op : CmpOp} {r : R2} (ho : OpR X (compareOp op) r) (ha : PE X a ta) (hb : PE X b tb) (hm : behindInMarks op b = false) : PE X (.Compare a [op] [b] pos) (tOp r ta tb) := by
  intro pins s σ H Q I h
  exact wpAny_Compare1 (binT ha hb I h fun v u s2 x y H2 I2 rx ry q => ho pins s2 σ H2 x y v u Q I2 rx ry q) hm
/-- a reading of a value as a test -/
noncomputable def tTest (t : TE) : TT := fun σ H Q => t σ H fun x H' => ∃ k, x = .bl k ∧ Q k H'
theorem pt_cmpR {op : CmpOp} {r : R2} (ho : OpR X (compareOp op) r) (ha : PE X a ta) (hb : PE X b tb) (hm : behindInMarks op b = false) : PT X (.Compare a [op] [b] pos) (tTest (tOp r ta tb)) := by
  intro pins s σ H Q I h
  refine wpAny_isTrue_Compare1 (thn (ha pins s σ H _ I h) fun v s1 ⟨x, H1, I1, r1, q1⟩ => thn (hb pins s1 σ H1 _ I1 q1) fun u s2 ⟨y, H2, I2, r2, q2⟩ =>
    thn (ho pins s2 σ H2 x y v u _ I2 r1 r2 q2) fun c s3 ⟨z, H3, I3, r3, k, e, q3⟩ => ?_) hm
  subst e
  cases r3
  exact wpAny_truthy_bool ⟨H3, I3, q3⟩
/-- a op1 b op2 c -/
noncomputable def tChain (r r' : R2) (ta tb tc : TE) : TE := fun σ H Q => ta σ H fun x H1 => tb σ H1 fun y H2 => r x y H2 fun z H3 => ∃ k, z = .bl k ∧
  (if k = true then tc σ H3 fun w' H4 => r' y w' H4 Q else Q (.bl false) H3)
theorem pt_chain {op op' : CmpOp} {r r' : R2} (ho : OpR X (compareOp op) r) (ho' : OpR X (compareOp op') r') (ha : PE X a ta) (hb : PE X b tb) (hc : PE X c tc)
    (hm : lastMarks [op, op'] [b, c] = false := by with_unfolding_all rfl) : PT X (.Compare a [op, op'] [b, c] pos) (tTest (tChain r r' ta tb tc)) := by
  intro pins s σ H Q I h
  refine isTrue_chain (thn (ha pins s σ H _ I h) fun v s1 ⟨x, H1, I1, r1, q1⟩ => test_link (thn (hb pins s1 σ H1 _ I1 q1) fun u s2 ⟨y, H2, I2, r2, q2⟩ =>
    thn (ho pins s2 σ H2 x y v u _ I2 r1 r2 q2) fun d s3 ⟨z, H3, I3, r3, k, e, q3⟩ => ?_)) hm
  subst e
  cases r3
  refine wpAny_truthy_bool ?_
  cases k with
  | false =>
    obtain ⟨k', e', q'⟩ := q3
    cases e'
    exact ite_ff ⟨H3, I3, q'⟩
  | true =>
    refine ite_tt (test_last (thn (hc pins s3 σ H3 _ I3 q3) fun w' s4 ⟨z', H4, I4, r4, q4⟩ => thn (ho' pins s4 σ H4 y z' u w' _ I4 r2 r4 q4) fun d' s5 ⟨z2, H5, I5, r5, k2, e2, q5⟩ => ?_))
    subst e2
    cases r5
    exact wpAny_truthy_bool ⟨H5, I5, q5⟩

/-! ### truth -/
/-- a value's truth by the abstract heap -/
noncomputable def TruV (K : PySem.W.Frag) (x : V) (H : Hp) (k : Bool) : Prop :=
  match x with
  | .non => k = false
  | .bl b => k = b
  | .int i => k = (i != 0)
  | .str y => y.length ≤ sizeLine ∧ k = ((y.length : Int) != 0)
  | .byt y => y.size ≤ sizeLine ∧ k = ((y.size : Int) != 0)
  | .ref p => (∃ xs, SqL K H p xs ∧ k = !xs.isEmpty) ∨ (∃ xs, SqT K H p xs ∧ k = !xs.isEmpty) ∨ ∃ kvs, H p = some (.dK kvs) ∧ k = !kvs.isEmpty
  | _ => False
theorem isEmpty_kv {κ : Type} {kvs : List (κ × V)} {vs : List (κ × Value)} (r : KV kvs vs) : (!vs.isEmpty) = !kvs.isEmpty := by
  cases r <;> rfl
theorem isEmpty_of {xs : List V} {its : List Value} (r : Vals xs its) : (!its.toArray.isEmpty) = !xs.isEmpty := by
  cases r <;> simp
theorem line63 : (sizeLine : Nat) < 2 ^ 63 := by rw [sizeLine_eq]; decide
theorem tru_ok : TruR X (fun x H Q => ∃ k, TruV X.K x H k ∧ Q k H) := by
  intro pins s σ H x v Q I rx h
  obtain ⟨k, e, q⟩ := h
  have hl := line63
  have hs : sizeLine = 16777216 := sizeLine_eq
  cases x with
  | non =>
    cases rx
    have e' : k = false := e
    subst e'
    exact truthy_none ⟨H, I, q⟩
  | bl b =>
    cases rx
    have e' : k = b := e
    subst e'
    exact wpAny_truthy_bool ⟨H, I, q⟩
  | int i =>
    obtain ⟨t, rfl⟩ := rx
    have e' : k = (i != 0) := e
    subst e'
    exact PySem.P.truthy_int ⟨H, I, q⟩
  | str y =>
    obtain ⟨t, rfl⟩ := rx
    obtain ⟨hy, e'⟩ : y.length ≤ sizeLine ∧ k = ((y.length : Int) != 0) := e
    subst e'
    exact PySem.P.truthy_str (by omega) ⟨H, I.tok _, q⟩
  | byt y =>
    obtain ⟨t, rfl⟩ := rx
    obtain ⟨hy, e'⟩ : y.size ≤ sizeLine ∧ k = ((y.size : Int) != 0) := e
    subst e'
    exact PySem.W.truthy_bytes (by omega) ⟨H, I.tok _, q⟩
  | ref p =>
    cases rx
    have e' : (∃ xs, SqL X.K H p xs ∧ k = !xs.isEmpty) ∨ (∃ xs, SqT X.K H p xs ∧ k = !xs.isEmpty) ∨ ∃ kvs, H p = some (.dK kvs) ∧ k = !kvs.isEmpty := e
    rcases e' with ⟨xs, hx, e'⟩ | ⟨xs, hx, e'⟩ | ⟨kvs, hx, e'⟩
    · subst e'
      obtain ⟨its, r, pl, hz⟩ := I.list hx
      have hlen := r.length
      exact wpAny_truthy_list pl.isList (by simp only [List.size_toArray]; omega) ⟨H, I.tok _, by rw [isEmpty_of r]; exact q⟩
    · subst e'
      obtain ⟨its, r, pl, hz⟩ := I.tuple hx
      have hlen := r.length
      exact truthy_tuple pl (by simp only [List.size_toArray]; omega) ⟨H, I.tok _, by rw [isEmpty_of r]; exact q⟩
    · subst e'
      obtain ⟨hz, hS, vs, r, m⟩ : kvs.length ≤ sizeLine ∧ (p == sysModules) = false ∧ ∃ vs, KV kvs vs ∧ s.heap.DictOf (mixKind X.prog X.w) p vs := I.hok p _ hx
      have hlen : kvs.length = vs.length := Paired.length r
      exact wpAny_truthy_dict hS m (by omega) ⟨H, I.tok _, by rw [isEmpty_kv r]; exact q⟩
  | _ => exact (show False from e).elim
/-- any expression whose test is its value's truth (a name, a call, a subscript, a field ..: he by fun _ => rfl) -/
theorem pt_truth (ha : PE X a ta) (he : ∀ whole, isTrue a X.env whole = (do let v ← whole; standAt a.pos; holding [v] (truthy v))) :
    PT X a (fun σ H Q => ta σ H fun x H' => ∃ k, TruV X.K x H' k ∧ Q k H') := by
  intro pins s σ H Q I h
  exact isTrue_plain (thn (ha pins s σ H _ I h) fun v s1 ⟨x, H1, I1, r1, q1⟩ => tru_ok pins s1 σ H1 x v Q I1 r1 q1) (he _)

/-! ### strs and bytes -/


/-! ### scalar builtins, by CallR -/
theorem vals1 {x : V} {us : List Value} (r : Vals [x] us) : ∃ u, us = [u] ∧ RelV x u := by
  cases r with
  | cons r1 r2 => cases r2; exact ⟨_, rfl, r1⟩
theorem call_int1 : CallR X (.type "int") (fun xs H Q => (∃ i, xs = [.int i] ∧ Q (.int i) H) ∨ ∃ k, xs = [.bl k] ∧ Q (.int (if k then 1 else 0)) H) := by
  intro pins s σ H xs us Q I r h
  rcases h with ⟨i, rfl, q⟩ | ⟨k, rfl, q⟩
  · obtain ⟨u, rfl, t, rfl⟩ := vals1 r
    exact call_int_int ⟨.int i, H, I, ⟨_, rfl⟩, q⟩
  · obtain ⟨u, rfl, r1⟩ := vals1 r
    cases r1
    exact call_int_bool ⟨.int (if k then 1 else 0), H, I.tok _, ⟨_, rfl⟩, q⟩
end
end L2

namespace L2
open PySem PySem.Spec PyProof.Rows

/-! ### an instance, its attributes a map -/
structure ObjM (h : Heap) (x dx C : Addr) (mA : Str → Option Value) : Prop where
  obj : h.get? x = some (PySem.W.instObj C dx)
  ns : h.Ns1 dx mA
  ne : dx ≠ x

theorem lookIn_ns {h : Heap} {dx : Addr} {mA : Str → Option Value} (n : h.Ns1 dx mA) : ∃ od, h.get? dx = some od ∧ ∀ name, PySem.W.lookIn name od = some (mA name) := by
  obtain ⟨o, es, ep, ho, hd, hk, _, hm⟩ := n
  refine ⟨o, ho, fun name => ?_⟩
  have e := hm name
  unfold nsFind findBy at e
  rw [← Array.find?_toList] at e
  unfold PySem.W.lookIn
  rw [hd]
  dsimp only
  split
  · rename_i y q
    rw [q] at e
    exact congrArg some e
  · rename_i q
    rw [q] at e
    have a : es.toList.any (·.refKey) = false := by
      rw [List.any_eq_false]
      intro y hy
      obtain ⟨z, t, hkey⟩ := hk y (Array.mem_toList_iff.mp hy)
      simp [DictEntry.refKey, hkey]
    have a' : ¬ es.toList.any (·.refKey) = true := by rw [a]; exact Bool.false_ne_true
    rw [if_neg a']
    exact congrArg some e

theorem ObjM.look {h : Heap} {x dx C : Addr} {mA : Str → Option Value} (I : ObjM h x dx C mA) : ∃ od, PySem.W.InstAt h x (PySem.W.instObj C dx) C (some od) ∧ ∀ name, PySem.W.lookIn name od = some (mA name) :=
  let ⟨od, ho, hl⟩ := lookIn_ns I.ns
  ⟨od, ⟨I.obj, rfl, rfl, ho⟩, hl⟩

section
variable {prog : Program} {w : World} {A : Around} {E : Value → Shared → Prop} {s : Shared} {K : PySem.W.Frag} {x dx C f : Addr} {mA : Str → Option Value} {name : Str} {v : Value}





end

/-! ### the attributes as a list of pairs -/

theorem RelO.some_of {v : V} {o : Option Value} (r : RelO (some v) o) : ∃ u, o = some u ∧ RelV v u := by
  cases o with
  | none => exact (show False from r).elim
  | some u => exact ⟨u, rfl, r⟩

section
variable {P : Program} {w : World} {H H' : Hp} {h h' : Heap} {a C dx : Addr} {fs fs' : List (Str × V)}
theorem ins_get (hok : HOk P w H h) (e : H a = some (.ins C dx fs)) : ∃ mA, ObjM h a dx C mA ∧ (∀ f, RelO (fs.lookup f) (mA f)) ∧ PySem.Within mA (fs.map (·.1)) ∧ fs.length ≤ 1000 ∧ H dx = some (.own a) := by
  obtain ⟨d, z, ne, ob, mA, n, r, q⟩ := (show ObjOk P w H h a (.ins C dx fs) from hok a _ e)
  exact ⟨mA, ⟨ob, n, ne⟩, r, q, z, d⟩
end

/-! ### what of the text a class must have -/
structure Cls (K : PySem.W.Frag) (C : Addr) : Prop where
  pg : PySem.W.plainGet K C Str.empty = true
  hd : PySem.W.hasDictIn K C = true
  po : PySem.W.plainOver K C = true
  sa : PySem.W.findIn K (.ref C) "__setattr__" = some (some (.builtin "object.__setattr__"))
theorem Cls.get {K : PySem.W.Frag} {C : Addr} (c : Cls K C) (f : Str) : PySem.W.plainGet K C f = true := c.pg

section
variable {X : Cx} {pins : List (Addr × Obj)} {σ : St} {H : Hp} {s : Shared} {a C dx : Addr} {fs : List (Str × V)} {f : Str} {v : V} {A : Around} {E : Value → Shared → Prop}






end

/-! ### readings and rules -/

section
variable {X : Cx} {o e value : Expr} {f : Str} {pos pos' tpos : Pos} {ta tv : TE}

end

/-! ### isinstance -/
section
variable {X : Cx} {pins : List (Addr × Obj)} {σ : St} {H : Hp} {s : Shared} {A : Around} {E : Value → Shared → Prop} {Q : Value → Shared → Prop} {c : Value} {b : Bool}
/-- the type of a value, as the fragment's deciders take it; for an instance its class -/
inductive TyOf (K : PySem.W.Frag) (H : Hp) : V → Value → Prop where
  | non : TyOf K H .non (.type "NoneType")
  | bl (x : Bool) : TyOf K H (.bl x) (.type "bool")
  | int (i : Int) : TyOf K H (.int i) (.type "int")
  | str (x : Str) : TyOf K H (.str x) (.type "str")
  | flt (x : UInt64) : TyOf K H (.flt x) (.type "float")
  | lst {a : Addr} {xs : List V} (e : H a = some (.lst xs)) : TyOf K H (.ref a) (.type "list")
  | frz {a : Addr} {o : Obj} {xs : List V} (e : H a = some (.frz o (.lst xs))) : TyOf K H (.ref a) (.type "list")
  | tup {a : Addr} {xs : List V} (e : H a = some (.tup xs)) : TyOf K H (.ref a) (.type "tuple")
  | dK {a : Addr} {kvs : List (Key × V)} (e : H a = some (.dK kvs)) : TyOf K H (.ref a) (.type "dict")
  | dT {a : Addr} {kvs : List (List Key × V)} (e : H a = some (.dT kvs)) : TyOf K H (.ref a) (.type "dict")
  | ins {a C dx : Addr} {fs : List (Str × V)} (e : H a = some (.ins C dx fs)) (cl : Cls K C) (ha : PySem.W.findIn K (.ref C) "__class__" = some (some (.builtin "object.__class__")))
      (hn : PySem.W.specialIn K (.builtin "object.__class__") "__get__" = some (some (.builtin "getset_descriptor.__get__"))) (htk : PySem.W.takesIn K (.builtin "object.__class__") = some true)
      (hm : PySem.W.mroIn K C (.type "object") = some true) : TyOf K H (.ref a) (.ref C)
/-- isinstance(x, c) for one class c, a built-in or an own one: kitOne's answer -/
theorem isinst_ok {x : V} {u t : Value} (I : Inv X pins σ H s) (rx : RelV x u) (ty : TyOf X.K H x t) (e : PySem.W.kitOne X.K t c = some b) (h : ∀ tk, Q (.bool b) { s with toks := tk }) :
    wpAny (model X.prog X.w) A (call (.builtin "isinstance") [u, c]) Q E s := by
  cases ty with
  | non => cases (show u = Value.none from rx); exact PySem.W.kia_one PySem.W.kitx_none I.kIn True.intro e (fun z => nomatch z) h
  | bl y => cases (show u = Value.bool y from rx); exact PySem.W.kia_one PySem.W.kitx_bool I.kIn True.intro e (fun z => nomatch z) h
  | int i => obtain ⟨t, q⟩ := (show ∃ t, u = Value.int i t from rx); cases q; exact PySem.W.kia_one PySem.W.kitx_int I.kIn True.intro e (fun z => nomatch z) h
  | str y => obtain ⟨t, q⟩ := (show ∃ t, u = Value.str y t from rx); cases q; exact PySem.W.kia_one PySem.W.kitx_str I.kIn True.intro e (fun z => nomatch z) h
  | flt y => obtain ⟨t, q⟩ := (show ∃ t, u = Value.float y t from rx); cases q; exact PySem.W.kia_one PySem.W.kitx_float I.kIn True.intro e (fun z => nomatch z) h
  | @lst a xs ea =>
    cases (show u = Value.ref a from rx)
    obtain ⟨_, _, n, _, h1⟩ := (show ObjOk X.prog X.w H s.heap a (.lst xs) from I.hok a _ ea)
    exact PySem.W.kia_one PySem.W.kitx_list I.kIn ⟨_, h1, rfl⟩ e (fun z => nomatch z) h
  | @frz a ob xs ea =>
    cases (show u = Value.ref a from rx)
    obtain ⟨_, _, _, n, _, h1⟩ := (show ObjOk X.prog X.w H s.heap a (.frz ob (.lst xs)) from I.hok a _ ea)
    exact PySem.W.kia_one PySem.W.kitx_list I.kIn ⟨_, h1, rfl⟩ e (fun z => nomatch z) h
  | @tup a xs ea =>
    cases (show u = Value.ref a from rx)
    obtain ⟨_, _, _, p⟩ := (show ObjOk X.prog X.w H s.heap a (.tup xs) from I.hok a _ ea)
    obtain ⟨o, h1, h2, _⟩ := p
    exact PySem.W.kia_one PySem.W.kitx_tuple I.kIn ⟨o, h1, h2⟩ e (fun z => nomatch z) h
  | @dK a kvs ea =>
    cases (show u = Value.ref a from rx)
    obtain ⟨_, _, vs, _, p⟩ := (show ObjOk X.prog X.w H s.heap a (.dK kvs) from I.hok a _ ea)
    obtain ⟨o, es, ep, h1, h2, _⟩ := p
    exact PySem.W.kia_one PySem.W.kitx_dict I.kIn ⟨o, h1, h2.1⟩ e (fun z => nomatch z) h
  | @dT a kvs ea =>
    cases (show u = Value.ref a from rx)
    obtain ⟨_, _, xs, _, o, es, ep, h1, h2, _⟩ := (show ObjOk X.prog X.w H s.heap a (.dT kvs) from I.hok a _ ea)
    exact PySem.W.kia_one PySem.W.kitx_dict I.kIn ⟨o, h1, h2.1⟩ e (fun z => nomatch z) h
  | @ins a C dx fs ea cl ha hn htk hm =>
    cases (show u = Value.ref a from rx)
    obtain ⟨mA, O, _⟩ := ins_get I.hok ea
    obtain ⟨od, J, _⟩ := O.look
    exact PySem.W.kia_one (PySem.W.kitx_own (cl.get _) cl.hd ha hn htk hm) I.kIn J e (fun z => nomatch z) h
end
end L2

namespace L2
open PySem PySem.Spec PyProof.Rows

/-! ### room -/
structure Room (k : Nat) (A : Around) : Prop where
  hd : A.handled = none
  dp : A.depth + 3 * k + 5 < recursionLimit
  un : A.units + 16 * k + 200 < cLine
theorem Room.mono {j k : Nat} {A : Around} (r : Room k A) (h : j ≤ k) : Room j A := ⟨r.hd, by have := r.dp; omega, by have := r.un; omega⟩
theorem Room.deeper {k : Nat} {A : Around} (r : Room (k + 1) A) (env : Env) : Room k (A.deeper env) :=
  ⟨r.hd, by have := r.dp; show A.depth + 1 + 3 * k + 5 < _; omega, by have := r.un; show A.units + 3 + 16 * k + 200 < _; omega⟩
theorem Room.depth {k : Nat} {A : Around} (r : Room k A) : A.depth < recursionLimit := by have := r.dp; omega
theorem Room.units {k : Nat} {A : Around} (r : Room k A) : A.units + 64 < cLine := by have := r.un; omega

/-! ### argument lists and displays -/
noncomputable def tNil : TA := fun _ H Q => Q [] H
noncomputable def tCons (ta : TE) (tr : TA) : TA := fun σ H Q => ta σ H fun x H1 => tr σ H1 fun xs H2 => Q (x :: xs) H2
section
variable {X : Cx} {e : Expr} {es : List Expr} {te : TE} {t : TA} {pos : Pos}
theorem pa_nil : PA X [] tNil := fun _ _ _ _ H Q I h => Calls.spliced_nil ⟨[], H, I, .nil, h⟩
theorem pa_cons (ha : PE X e te) (hr : PA X es t) (hs : starEach (e :: es) X.env = (false, eval e X.env) :: starEach es X.env := by rfl) : PA X (e :: es) (tCons te t) := by
  intro pos pins s σ H Q I h
  rw [hs]
  show wpAny _ _ (spliced ((false, eval e X.env) :: backTo pos (starEach es X.env))) _ _ s
  refine Calls.spliced_cons (thn (ha pins s σ H _ I h) fun u s1 ⟨x, H1, I1, r1, q1⟩ => ?_)
  exact thn (hr pos pins s1 σ H1 _ I1 q1) fun us s2 ⟨xs, H2, I2, r2, q2⟩ => ⟨x :: xs, H2, I2, .cons r1 r2, q2⟩

/-- a tuple, a list of written items -/
noncomputable def tTup (t : TA) : TE := fun σ H Q => t σ H fun xs H1 => xs.length ≤ sizeLine ∧ ∀ p, H1 p = none → Q (.ref p) (upd H1 p (.tup xs))
noncomputable def tLst (t : TA) : TE := fun σ H Q => t σ H fun xs H1 => xs.length ≤ sizeLine ∧ ∀ p, H1 p = none → Q (.ref p) (upd H1 p (.lst xs))
theorem pe_tup {x1} (h : PA X es t) : PE X (.Tuple es x1 pos) (tTup t) := by
  intro pins s σ H Q I hq
  refine wpAny_Tuple_spliced (thn (h pos pins s σ H _ I hq) fun us s1 ⟨xs, H1, I1, r, z, q⟩ => ⟨by rw [← r.length]; exact z, ?_⟩)
  have hf : H1 s1.heap.objs.size = none := I1.hok.fresh (Nat.le_refl _)
  refine ⟨.ref s1.heap.objs.size, upd H1 s1.heap.objs.size (.tup xs), I1.laid (t' := s1.toks) (fun b u e => Heap.get?_push_of_some _ e) (Nat.le_refl _) ?_, rfl, q _ hf⟩
  exact ⟨z, us, r, ⟨_, Heap.get?_push_size _ rfl, rfl, _, rfl⟩⟩
theorem pe_lst (h : PA X es t) : PE X (.List es pos) (tLst t) := by
  intro pins s σ H Q I hq
  refine wpAny_List_spliced (thn (h pos pins s σ H _ I hq) fun us s1 ⟨xs, H1, I1, r, z, q⟩ => ⟨by rw [← r.length]; exact z, ?_⟩)
  have hf : H1 s1.heap.objs.size = none := I1.hok.fresh (Nat.le_refl _)
  refine ⟨.ref s1.heap.objs.size, upd H1 s1.heap.objs.size (.lst xs), I1.laid (t' := s1.toks) (fun b u e => Heap.get?_push_of_some _ e) (Nat.le_refl _) ?_, rfl, q _ hf⟩
  exact ⟨z, us, 0, r, Heap.get?_push_size _ rfl⟩
end

/-! ### what a def promises -/
/-- a def's promise: the bound arguments in the parameters' order, the heap, the wanted end, the wanted exception -/
noncomputable abbrev Sp := List V → Hp → VK → XK → Prop
/-- how an exception lies behind a call (file 08 gives it): the callers' frames, abstract heap and state ahead of the call, the wish, the exception, the state -/
noncomputable abbrev CXT := List Env → Hp → Shared → XK → Value → Shared → Prop

/-- the state at a call -/
structure Env0 (P : Program) (w : World) (K : PySem.W.Frag) (mg : Str → Option Value) (base : Heap) (A : Around) (outer : List Env) (s : Shared) (H : Hp) : Prop where
  frames : A.frames = some outer
  mod : Mod K mg base
  bs : ∀ b o, base.get? b = some o → s.heap.get? b = some o ∧ H b = none
  bsz : base.objs.size ≤ s.heap.objs.size
  funs : s.heap.FunFrames base outer
  frf : ∀ b ∈ frs outer, H b = none
  hok : HOk P w H s.heap
  bare : AllBare s.gens
/-- a call's end -/
noncomputable def CE (outer : List Env) (P : Program) (w : World) (H : Hp) (s : Shared) (Q : VK) (u : Value) (s' : Shared) : Prop :=
  ∃ v H', s'.os = s.os ∧ AllBare s'.gens ∧ Un (frs outer) [] H H' s.heap s'.heap ∧ HOk P w H' s'.heap ∧ RelV v u ∧ Q v H'
noncomputable def CR (CX : CXT) (outer : List Env) (P : Program) (w : World) (H : Hp) (s : Shared) (Q : VK) (E : XK) (r : Result) (s' : Shared) : Prop :=
  match r with
  | .ok (.ret u) => CE outer P w H s Q u s'
  | .ok _ => False
  | .error e => CX outer H s E e s'
structure FnOk (P : Program) (w : World) (K : PySem.W.Frag) (mg : Str → Option Value) (base : Heap) (CX : CXT) (k : Nat) (f : Addr) (fd : FuncData) (ps : List Str) (sp : Sp) : Prop where
  len : ∀ vs H Q E, sp vs H Q E → vs.length = ps.length
  run : ∀ (A : Around) (outer : List Env) (s : Shared) (H : Hp) (args : Args) (us : List Value) (vs : List V) (Q : VK) (E : XK), Room k A → Env0 P w K mg base A outer s H → BindsTo s fd args (ps.zip us) → Vals vs us → sp vs H Q E →
    codeAny (model P w) A (.call (.ref f) args) (CR CX outer P w H s Q E) s
theorem FnOk.mono {P : Program} {w : World} {K : PySem.W.Frag} {mg : Str → Option Value} {base : Heap} {CX : CXT} {j k : Nat} {f : Addr} {fd : FuncData} {ps : List Str} {sp : Sp} (F : FnOk P w K mg base CX j f fd ps sp) (h : j ≤ k) :
    FnOk P w K mg base CX k f fd ps sp := ⟨F.len, fun A outer s H args us vs Q E hr => F.run A outer s H args us vs Q E (hr.mono h)⟩


section
variable {X : Cx} {pins : List (Addr × Obj)} {σ : St} {H : Hp} {s s' : Shared}
/-- from a body: what a callee wants -/
theorem Inv.env0 (I : Inv X pins σ H s) : Env0 X.prog X.w X.K X.mg X.base X.A X.stack s H :=
  ⟨I.ok.frames, I.ok.mod, I.bs, Nat.le_trans I.ok.bsz I.sz, I.stack, I.stkFree, I.hok, I.bare⟩
/-- behind a call -/
theorem Inv.after {Q : VK} {u : Value} (I : Inv X pins σ H s) (h : CE X.stack X.prog X.w H s Q u s') : EP X pins σ Q u s' := by
  obtain ⟨v, H', os, bare, un, hok, r, q⟩ := h
  obtain ⟨hh, g, d, t, os'⟩ := s'
  obtain rfl : os' = s.os := os
  exact ⟨v, H', I.call (h' := hh) (g' := g) (d' := d) (t' := t) (ch := []) un hok bare (fun b z => absurd z (by simp)), r, q⟩
end

/-! ### calls -/
/-- f(..): the written arguments, then the defaults dvs; E: what is wanted of an exception -/
noncomputable def tCall (sp : Sp) (dvs : List V) (E : XK) (t : TA) : TE := fun σ H Q => t σ H fun vs H1 => sp (vs ++ dvs) H1 Q E

/-- how the parameters are bound: us the positional arguments, kw the keywords' values by name, ds the defaults that fill up -/
noncomputable def Binds (K : PySem.W.Frag) (fd : FuncData) (ps : List Str) (ds : List Value) : Prop :=
  ∀ (s : Shared) (us : List Value), K.In s.heap → (us ++ ds).length = ps.length → BindsTo s fd ⟨us, []⟩ (ps.zip (us ++ ds))
/-- every parameter is given -/
theorem Binds.all {K : PySem.W.Frag} {fd : FuncData} {ps : List Str} (h : ∀ us : List Value, us.length = ps.length → bindArgs fd ⟨us, []⟩ = pure (ps.zip us)) : Binds K fd ps [] := fun s us _ hl => by
  rw [List.append_nil] at hl ⊢
  exact .of_eq (h us hl)

/-- an exception of a callee reaches what this body wants of exceptions -/
noncomputable def Passes (CX : CXT) (X : Cx) (E : XK) : Prop := ∀ (pins : List (Addr × Obj)) (σ : St) (H : Hp) (s : Shared) (e : Value) (s' : Shared), Inv X pins σ H s → CX X.stack H s E e s' → X.xe e s'

section
variable {X : Cx} {CX : CXT} {k : Nat} {f C : Addr} {fd : FuncData} {ps : List Str} {sp : Sp} {dvs : List V} {ds : List Value} {E : XK} {x m : Str} {p pos apos : Pos} {e o : Expr} {es : List Expr} {ta : TE} {t : TA}

/-- the callee runs -/
theorem run_fn {pins : List (Addr × Obj)} {σ : St} {H : Hp} {s : Shared} {Q : VK} {us : List Value} {vs : List V} (F : FnOk X.prog X.w X.K X.mg X.base CX k f fd ps sp) (hr : Room k X.A) (hb : Binds X.K fd ps ds) (hd : Vals dvs ds) (hx : Passes CX X E)
    (I : Inv X pins σ H s) (r : Vals vs us) (h : sp (vs ++ dvs) H Q E) : wpAny (model X.prog X.w) X.A (call (.ref f) us) (EP X pins σ Q) X.xe s := by
  have r2 : Vals (vs ++ dvs) (us ++ ds) := r.append hd
  have hl : (us ++ ds).length = ps.length := by rw [← r2.length]; exact F.len _ _ _ _ h
  refine wpAny_call (codeAny_mono (F.run X.A X.stack s H ⟨us, []⟩ (us ++ ds) (vs ++ dvs) Q E hr I.env0 (hb s us I.kIn hl) r2 h) fun r s' hq => ?_)
  cases r with
  | error e => exact hx pins σ H s e s' I hq
  | ok fl =>
    cases fl with
    | ret u => exact I.after hq
    | next => exact False.elim hq
    | brk => exact False.elim hq
    | cont => exact False.elim hq

theorem pe_call (F : FnOk X.prog X.w X.K X.mg X.base CX k f fd ps sp) (hr : Room k X.A) (hg : Gl X x) (hm : X.mg x = some (.ref f)) (hk : PySem.W.keepIn X.K (.ref f) = true) (hb : Binds X.K fd ps ds) (hd : Vals dvs ds) (hx : Passes CX X E)
    (ha : PA X (e :: es) t) (hdb : (x == ("__debug__" : Str)) = false := by decide) (he : starEach (e :: es) X.env = (false, eval e X.env) :: starEach es X.env := by rfl) (hpl : (backTo pos (starEach es X.env)).any (·.1) = false := by rfl) :
    PE X (.Call (.Name x p) (e :: es) [] pos) (tCall sp dvs E t) := by
  intro pins s σ H Q I h
  refine wpAny_Call_Name_kw (ld_glob I hg hm ?_ hdb)
  refine PySem.W.callWith_K (h₀ := X.base) I.ok.mod.kin hk (thn (ha pos pins s σ H _ I h) fun us s1 ⟨vs, H1, I1, r, q⟩ => ⟨I1.kIn, ?_⟩) he hpl
  exact run_fn F hr hb hd hx I1 r q



end

/-! ### keywords -/
section
variable {X : Cx} {CX : CXT} {k : Nat} {f C : Addr} {fd : FuncData} {ps ks : List Str} {sp : Sp} {E : XK} {x m : Str} {p pos apos kpos : Pos} {e o : Expr} {es : List Expr} {kws : List Keyword} {te ta : TE} {t tk : TA} {nm : Option Str}

variable {g : List Value → List Value → List Value} {gV : List V → List V → List V}
end

/-! ### a def's body keeps its promise -/
/-- names: the parameters first -/
structure FnScope (N P : List Str) (sc : Scope) : Prop where
  kind : sc.kind = .function
  co : sc.isCoroutine = false
  gen : sc.isGenerator = false
  nd : N.Nodup
  pre : N.take P.length = P
  par : ∀ x ∈ P, sc.names.lookup x = some .local ∨ sc.names.lookup x = some .cell
  nofree : ∀ y ∈ sc.names, y.2 ≠ .free

theorem bindL_out {kindOf : Str → Option NameKind} {x : Str} : ∀ {binds : List (Str × Value)} {m : Str → Option Value}, (∀ v, (x, v) ∉ binds) → bindL kindOf binds m x = m x
  | [], _, _ => rfl
  | (n, v) :: r, m, h => by
    unfold bindL
    rw [bindL_out fun w hw => h w (List.mem_cons_of_mem _ hw)]
    split
    · have : x ≠ n := by rintro rfl; exact h v List.mem_cons_self
      simp [this]
    · rfl
theorem bindC_out {kindOf : Str → Option NameKind} {x : Str} : ∀ {binds : List (Str × Value)} {m : Str → Option Value}, (∀ v, (x, v) ∉ binds) → bindC kindOf binds m x = m x
  | [], _, _ => rfl
  | (n, v) :: r, m, h => by
    unfold bindC
    rw [bindC_out fun w hw => h w (List.mem_cons_of_mem _ hw)]
    split
    · rfl
    · have : x ≠ n := by rintro rfl; exact h v List.mem_cons_self
      simp [this]
theorem bindL_get {kindOf : Str → Option NameKind} {x : Str} {v : Value} : ∀ {P : List Str} {vs : List Value} {i : Nat} {m : Str → Option Value}, P.Nodup → P[i]? = some x → vs[i]? = some v → kindOf x = some .local →
    bindL kindOf (P.zip vs) m x = some v
  | [], _, _, _, _, h, _, _ => by simp at h
  | _ :: _, [], _, _, _, _, h, _ => by simp at h
  | p :: P, w :: vs, 0, m, nd, h1, h2, hk => by
    simp at h1 h2; subst h1; subst h2
    show bindL kindOf ((p, w) :: P.zip vs) m p = _
    unfold bindL
    rw [bindL_out fun v hv => (List.nodup_cons.mp nd).1 (List.of_mem_zip hv).1, if_pos hk]
    simp
  | p :: P, w :: vs, i + 1, m, nd, h1, h2, hk => by
    show bindL kindOf ((p, w) :: P.zip vs) m x = _
    unfold bindL
    exact bindL_get (i := i) (List.nodup_cons.mp nd).2 (by simpa using h1) (by simpa using h2) hk
theorem bindC_get {kindOf : Str → Option NameKind} {x : Str} {v : Value} : ∀ {P : List Str} {vs : List Value} {i : Nat} {m : Str → Option Value}, P.Nodup → P[i]? = some x → vs[i]? = some v → kindOf x ≠ some .local →
    bindC kindOf (P.zip vs) m x = some v
  | [], _, _, _, _, h, _, _ => by simp at h
  | _ :: _, [], _, _, _, _, h, _ => by simp at h
  | p :: P, w :: vs, 0, m, nd, h1, h2, hk => by
    simp at h1 h2; subst h1; subst h2
    show bindC kindOf ((p, w) :: P.zip vs) m p = _
    unfold bindC
    rw [bindC_out fun v hv => (List.nodup_cons.mp nd).1 (List.of_mem_zip hv).1, if_neg hk]
    simp
  | p :: P, w :: vs, i + 1, m, nd, h1, h2, hk => by
    show bindC kindOf ((p, w) :: P.zip vs) m x = _
    unfold bindC
    exact bindC_get (i := i) (List.nodup_cons.mp nd).2 (by simpa using h1) (by simpa using h2) hk

/-- the names' values at the entry -/
noncomputable def start (N : List Str) (vs : List V) : St := vs.map some ++ List.replicate (N.length - vs.length) none

/-- the context of a def's body, at its entry; an exception leaves the frame, then lies as CX says -/
noncomputable def cxOf (CX : CXT) (P : Program) (w : World) (K : PySem.W.Frag) (mg : Str → Option Value) (base : Heap) (N : List Str) (qual : Str) (scope : Scope) (f : Addr) (cd : Value) (A : Around) (outer : List Env) (s : Shared) (H : Hp) (E : XK) : Cx where
  prog := P
  w := w
  K := K
  mg := mg
  base := base
  A := A.deeper (envOfC qual scope s.heap.objs.size f cd)
  N := N
  s₀ := s
  H₀ := H
  env := envOfC qual scope s.heap.objs.size f cd
  outer := outer
  stack := envOfC qual scope s.heap.objs.size f cd :: outer
  ex := []
  calm := true
  fn := fun _ => true
  pn := []
  xe := fun e s' => wpAny (model P w) (A.deeper (envOfC qual scope s.heap.objs.size f cd)) (leaving (envOfC qual scope s.heap.objs.size f cd) e) (fun _ s'' => CX outer H s E e s'') (fun e' s'' => CX outer H s E e' s'') s'

theorem cell_has {sc : Scope} {n : Nat} {x : Str} (h : sc.names.lookup x = some .cell) : ∃ c, (cellsFrom n sc.names []).lookup x = some c := by
  have q := PySem.W.cellsFrom_some sc.names n [] (.inl h)
  exact Option.isSome_iff_exists.mp q

theorem inv_start {CX : CXT} {P : Program} {w : World} {K : PySem.W.Frag} {mg : Str → Option Value} {base : Heap} {N ps : List Str} {qual : Str} {scope : Scope} {f : Addr} {cd : Value} {A : Around} {outer : List Env} {s s1 : Shared} {H : Hp} {E : XK} {us : List Value} {vs : List V}
    (S : FnScope N ps scope) (hd : A.handled = none) (e0 : Env0 P w K mg base A outer s H) (hl : vs.length = ps.length) (r : Vals vs us)
    (x : InCallC s s.heap.objs.size (bindL (envOfC qual scope s.heap.objs.size f cd).kindOf (ps.zip us) fun _ => none) (cellsFrom (s.heap.objs.size + 1) scope.names []) (bindC (envOfC qual scope s.heap.objs.size f cd).kindOf (ps.zip us) fun _ => none) s1) :
    Inv (cxOf CX P w K mg base N qual scope f cd A outer s H E) [] (start N vs) H s1 := by
  have hpl : ps.length ≤ N.length := by have := congrArg List.length S.pre; rw [List.length_take] at this; omega
  obtain ⟨h1, tk, rfl, hk⟩ := x.done
  have noA : ∀ b : Addr, b ∉ (cxOf CX P w K mg base N qual scope f cd A outer s H E).ex := fun b z => absurd (show b ∈ ([] : List Addr) from z) (by simp)
  refine ⟨⟨e0.mod, S.kind, rfl, rfl, Nat.le_refl _, fun y z c h1 h2 => ?_, fun y hy => ?_, fun y c _ h => ?_, fun _ => hd, Around.frames_deeper e0.frames, .inr ⟨rfl, rfl⟩, fun b z => absurd z (noA b), e0.bs, e0.bsz, fun b _ _ => noA b, fun b z => absurd z (noA b), e0.funs, e0.frf⟩,
    rfl, e0.bare, Un.kept hk, ⟨_, x.toInCall.ns, fun i y v h1 h2 h3 => ?_⟩, fun y c h => ⟨_, x.cell y c h⟩, e0.hok.fresh (Nat.le_refl _), fun y c h => ?_, fun p hp => absurd (show p ∈ ([] : List (Addr × Obj)) from hp) (by simp), e0.hok.kept hk, ?_⟩
  · exact name_of_addr x.apart (PySem.mem_of_lookup h1) (PySem.mem_of_lookup h2)
  · have hy : scope.names.lookup y = some .cell ∨ scope.names.lookup y = some .free := hy
    rcases hy with hy | hy
    · exact cell_has hy
    · exact absurd rfl (S.nofree _ (PySem.mem_of_lookup hy))
  · exact Nat.le_of_lt (x.above y c (PySem.mem_of_lookup h))
  · have hi : i < vs.length := by
      unfold start at h2
      by_cases hi : i < vs.length
      · exact hi
      · rw [List.getElem?_append_right (by simpa using hi)] at h2
        rw [List.getElem?_replicate] at h2
        split at h2 <;> cases h2
    have ha : vs[i]? = some v := by
      unfold start at h2
      rw [List.getElem?_append_left (by simpa using hi), List.getElem?_map] at h2
      cases e : vs[i]? with
      | none => rw [e] at h2; cases h2
      | some a => rw [e] at h2; cases h2; rfl
    obtain ⟨u, hu, rv⟩ := r.get ha
    have hp : ps[i]? = some y := by
      rw [← S.pre, List.getElem?_take_of_lt (by omega)]; exact h1
    have ndP : ps.Nodup := by rw [← S.pre]; exact S.nd.sublist (List.take_sublist _ _)
    refine ⟨u, rv, ?_⟩
    rcases S.par y (List.mem_of_getElem? hp) with k | k
    · exact .inl ⟨k, bindL_get ndP hp hu k⟩
    · obtain ⟨c, e⟩ := cell_has (n := s.heap.objs.size + 1) k
      refine .inr ⟨.inl k, c, e, ?_⟩
      have q := x.cell y c e
      rw [bindC_get ndP hp hu (by show scope.names.lookup y ≠ _; rw [k]; decide)] at q
      exact q
  · exact e0.hok.fresh (Nat.le_of_lt (x.above y c (PySem.mem_of_lookup h)))
  · unfold start
    show _ = N.length
    rw [List.length_append, List.length_map, List.length_replicate]
    omega

/-- THE RULE: a def (or a method) of the text, by its body. The body's reading t is chosen for each entry; it is run at the parameters' values -/
theorem fn_of {CX : CXT} {P : Program} {w : World} {K : PySem.W.Frag} {mg : Str → Option Value} {base : Heap} {k : Nat} {f : Addr} {name qual : Str} {params : Arguments} {body : List Stmt} {scope : Scope} {dV kV doc pm cdv ct oc : Value} {an od : Option Addr}
    {osl : Array (Option Value)} {N ps : List Str} {sp : Sp} (lk : K.lookup f = some ⟨oc, od, .func (PySem.W.fnOf name qual params body scope dV kV doc pm an cdv ct), osl⟩) (hcd : PySem.W.codeIn K cdv qual = true) (S : FnScope N ps scope)
    (len : ∀ vs H Q E, sp vs H Q E → vs.length = ps.length)
    (hbody : ∀ (A : Around) (outer : List Env) (s : Shared) (H : Hp) (vs : List V) (Q : VK) (E : XK), Room k (A.deeper (envOfC qual scope s.heap.objs.size f cdv)) → sp vs H Q E →
      ∃ t, PSs (cxOf CX P w K mg base N qual scope f cdv A outer s H E) body t ∧ t { nx := fun _ H' => Q .non H', rt := Q } (start N vs) H) :
    FnOk P w K mg base CX (k + 1) f (PySem.W.fnOf name qual params body scope dV kV doc pm an cdv ct) ps sp := by
  refine ⟨len, fun A outer s H args us vs Q E hr e0 hb r hsp => ?_⟩
  have hl := len _ _ _ _ hsp
  have KX : K.In s.heap := e0.mod.kin.keeps fun b o e => (e0.bs b o e).1
  have lim : s.heap.NoLimit := e0.mod.nolimit.keeps fun b o e => (e0.bs b o e).1
  have hkind : ∀ y ∈ ps.zip us, scope.names.lookup y.1 = some .local ∨ (scope.names.lookup y.1 = some .cell ∧ ((cellsFrom (s.heap.objs.size + 1) scope.names []).lookup y.1).isSome = true) := fun ⟨n, v⟩ hy => by
    rcases S.par n (List.of_mem_zip hy).1 with q | q
    · exact .inl q
    · exact .inr ⟨q, PySem.W.cellsFrom_some _ _ _ (.inl q)⟩
  refine codeAny_call_function hr.depth (KX _ _ lk) rfl S.co S.gen rfl (PySem.W.codeRec_of KX hcd) (hb _ _ _ _ ?_)
  refine wpAny_newFunctionEnv_cells S.kind hkind fun env he s1 x => ?_
  subst he
  refine ⟨lim.keeps x.toInCall.keep, codeAny_func ?_⟩
  obtain ⟨t, ht, hq⟩ := hbody A outer s H vs Q E (hr.deeper _) hsp
  have I : Inv (cxOf CX P w K mg base N qual scope f cdv A outer s H E) [] (start N vs) H s1 := inv_start S hr.hd e0 hl r x
  refine wpAny_mono (ht [] s1 (start N vs) H _ I hq) (fun fl s' hs => ?_) fun e s' hs => hs
  have fin : ∀ {σ' : St} {H' : Hp} {v : V} {u : Value}, Inv (cxOf CX P w K mg base N qual scope f cdv A outer s H E) [] σ' H' s' → RelV v u → Q v H' → CE outer P w H s Q u s' :=
    fun {σ' H' v u} J rv q => ⟨v, H', J.os, J.bare, J.base, J.hok, rv, q⟩
  cases fl with
  | ret u =>
    obtain ⟨v, σ', H', J, rv, q⟩ := hs
    exact fin J rv q
  | next =>
    obtain ⟨σ', H', J, q⟩ := hs
    exact fin (v := V.non) (u := Value.none) J rfl q
  | brk =>
    obtain ⟨_, _, _, q⟩ := hs
    exact False.elim q
  | cont =>
    obtain ⟨_, _, _, q⟩ := hs
    exact False.elim q
end L2

namespace L2
open PySem PySem.Spec PyProof.Rows
section
variable {X : Cx} {x : Str} {p pos : Pos} {e : Expr} {es : List Expr} {t : TA} {id T : String} {r : List V → Hp → VK → Prop}

noncomputable def tCB (r : List V → Hp → VK → Prop) (t : TA) : TE := fun σ H Q => t σ H fun vs H1 => r vs H1 Q
/-- f(e, ..), f a built-in function -/
theorem pe_callB (hc : CallR X (.builtin id) r) (hg : Gl X x) (hm : X.mg x = none) (hv : bootBuiltins x = some (.builtin id)) (ha : PA X (e :: es) t) (hn : x ≠ "__name__" := by decide) (hdb : (x == ("__debug__" : Str)) = false := by decide)
    (he : starEach (e :: es) X.env = (false, eval e X.env) :: starEach es X.env := by rfl) (hpl : (backTo pos (starEach es X.env)).any (·.1) = false := by rfl) : PE X (.Call (.Name x p) (e :: es) [] pos) (tCB r t) := by
  intro pins s σ H Q I h
  refine wpAny_Call_Name_kw (ld_blt I hg hm hv ?_ hn hdb)
  exact PyProof.Rows.callWith_builtin1 (thn (ha pos pins s σ H _ I h) fun us s1 ⟨vs, H1, I1, r1, q1⟩ => hc pins s1 σ H1 vs us Q I1 r1 q1) he hpl
/-- T(e, ..), T a built-in type -/
theorem pe_callTy (hc : CallR X (.type T) r) (hg : Gl X x) (hm : X.mg x = none) (hv : bootBuiltins x = some (.type T)) (ha : PA X (e :: es) t) (hn : x ≠ "__name__" := by decide) (hdb : (x == ("__debug__" : Str)) = false := by decide)
    (he : starEach (e :: es) X.env = (false, eval e X.env) :: starEach es X.env := by rfl) (hpl : (backTo pos (starEach es X.env)).any (·.1) = false := by rfl) : PE X (.Call (.Name x p) (e :: es) [] pos) (tCB r t) := by
  intro pins s σ H Q I h
  refine wpAny_Call_Name_kw (ld_blt I hg hm hv ?_ hn hdb)
  exact PyProof.Rows.callWith_type1 (thn (ha pos pins s σ H _ I h) fun us s1 ⟨vs, H1, I1, r1, q1⟩ => hc pins s1 σ H1 vs us Q I1 r1 q1) he hpl
end
end L2

namespace HT
open PySem PyProof.Rows



section
open PySem.SeqAt
open PySem.AutoSeq1 (wpAny_loadPart')
open PySem.MeetsSeq PySem.MeetsSeq2 PySem.MeetsSeq3

end

section
variable {prog : Program} {w : World} {A : Around} {E : Value → Shared → Prop} {s : Shared}


/-- t + u, t not empty -/
theorem cat_tup {t b : Addr} {vs ws : List Value} {Q : Value → Shared → Prop} (ht : IsTup s.heap t vs.toArray) (hb : IsTup s.heap b ws.toArray) (hv : vs ≠ [])
    (h1 : ws = [] → Q (.ref t) s) (h2 : ws ≠ [] → Q (.ref s.heap.objs.size) { s with heap := s.heap.push { cls := .type "tuple", data := .seq (vs ++ ws).toArray } })
    (hsz : vs.length + ws.length ≤ sizeLine) : wpAny (model prog w) A (binaryOp .Add (.ref t) (.ref b)) Q E s := by
  obtain ⟨⟨cls, dd, data, sl⟩, ho, hc, n, hd⟩ := id ht
  obtain ⟨⟨cls2, dd2, data2, sl2⟩, ho2, hc2, n2, hd2⟩ := id hb
  simp only at hc hd hc2 hd2
  subst hc hd hc2 hd2
  have e : vs.toArray ++ ws.toArray = (vs ++ ws).toArray := by simp
  by_cases hw : ws = []
  · exact concat_meets ⟨_, ho, rfl⟩ ⟨_, ho2, rfl⟩ noFill_tuple_add seq_tuple_add PySem.F.slot_tuple_add PySem.F.entry_tuple_add (PySem.F.args_tuple_add_2 _ _)
      (tuple_addW1 t b vs.toArray ws.toArray n n2 dd dd2 sl sl2 (by simpa using hv) (by simp [hw])) ⟨ho, ho2, h1 hw⟩
  · refine concat_meets ⟨_, ho, rfl⟩ ⟨_, ho2, rfl⟩ noFill_tuple_add seq_tuple_add PySem.F.slot_tuple_add PySem.F.entry_tuple_add (PySem.F.args_tuple_add_2 _ _)
      (tuple_addW2 t b vs.toArray ws.toArray n n2 dd dd2 sl sl2 (by simpa using hv) (by simpa using hw) (by rw [List.size_toArray, List.size_toArray]; exact hsz)) ⟨ho, ho2, ?_⟩
    rw [e]
    exact h2 hw

/-! ### t[a:b], not the whole -/
/-- a slice's bound as a place among n (d where it is left out) -/
noncomputable def sIx (n d : Nat) : Option Int → Nat
  | none => d
  | some v => if v < 0 then (v + (n : Int)).toNat else min v.toNat n
theorem sIx_none (n d : Nat) : sIx n d none = d := rfl
theorem sIx_nat (n d k : Nat) : sIx n d (some (k : Int)) = min k n := by
  show (if (k : Int) < 0 then ((k : Int) + (n : Int)).toNat else min (k : Int).toNat n) = min k n
  rw [if_neg (by omega), Int.toNat_natCast]
theorem sIx_le (n d : Nat) (hd : d ≤ n) (o : Option Int) : sIx n d o ≤ n := by
  cases o with
  | none => exact hd
  | some v =>
    show (if v < 0 then (v + (n : Int)).toNat else min v.toNat n) ≤ n
    by_cases hv : v < 0
    · rw [if_pos hv]; omega
    · rw [if_neg hv]; exact Nat.min_le_right _ _
theorem clip_eq (v : Int) (n d : Nat) : (if v < 0 then max (v + (n : Int)) 0 else min v (n : Int)) = ((sIx n d (some v) : Nat) : Int) := by
  show (if v < 0 then max (v + (n : Int)) 0 else min v (n : Int)) = (((if v < 0 then (v + (n : Int)).toNat else min v.toNat n) : Nat) : Int)
  by_cases hv : v < 0
  · simp only [if_pos hv]; omega
  · simp only [if_neg hv]; omega
theorem adjust_gen (lo hi : Option Int) (n : Nat) : Builtin.Slice.sliceAdjust lo hi 1 (n : Int) = (((sIx n 0 lo : Nat) : Int), ((sIx n n hi : Nat) : Int)) := by
  have h1 : ¬ ((1 : Int) < 0) := by omega
  unfold Builtin.Slice.sliceAdjust
  simp only [h1, if_false]
  refine Prod.ext ?_ ?_
  · cases lo with
    | none => rfl
    | some v => exact clip_eq v n 0
  · cases hi with
    | none => rfl
    | some v => exact clip_eq v n n
theorem places_gen (i j : Nat) : Builtin.Slice.slicePlaces (i : Int) (j : Int) 1 = j - i := by
  unfold Builtin.Slice.slicePlaces
  have h1 : (1 : Int) > 0 := by omega
  simp only [h1, if_true, Int.ediv_one]
  split <;> omega
theorem slicePart_ {v : Value} {o : Option Int} {Q : Option Int → Shared → Prop} (p : IsPart v o) (h : Q o s) : wpAny (model prog w) A (Builtin.Slice.slicePartIndex v) Q E s := by
  cases p with
  | none => exact slicePart_none h
  | int i t => exact slicePart_int h
theorem sliceApplied_gen {sl : Addr} {vl vu : Value} {lo hi : Option Int} {n : Nat} {Q : Int × Int × Nat → Shared → Prop} (hs : s.heap.IsSliceOf sl vl vu .none) (pl : IsPart vl lo) (pu : IsPart vu hi)
    (h : Q (((sIx n 0 lo : Nat) : Int), 1, sIx n n hi - sIx n 0 lo) s) : wpAny (model prog w) A (Builtin.Slice.sliceApplied (.ref sl) (pure (n : Int))) Q E s := by
  obtain ⟨os, hos, hcs, hds⟩ := id hs
  unfold Builtin.Slice.sliceApplied Builtin.Slice.sliceFields
  refine wpAny_bind (wpAny_bind (wpAny_field hos hds (x := vl) rfl (wpAny_bind (wpAny_field hos hds (x := vu) rfl (wpAny_bind (wpAny_field hos hds (x := .none) rfl (wpAny_pure ?_)))))))
  refine wpAny_bind (slicePart_none ?_)
  show wpAny _ _ (if ((1 : Int) == 0) = true then _ else _) _ _ s
  rw [if_neg (by decide)]
  refine wpAny_bind (slicePart_ pl (wpAny_bind (slicePart_ pu (wpAny_bind (wpAny_pure ?_)))))
  show wpAny _ _ (match Builtin.Slice.sliceAdjust lo hi 1 (n : Int) with | (lo, hi) => pure (lo, (1 : Int), Builtin.Slice.slicePlaces lo hi 1)) _ _ s
  rw [adjust_gen lo hi n]
  show wpAny _ _ (pure (((sIx n 0 lo : Nat) : Int), (1 : Int), Builtin.Slice.slicePlaces ((sIx n 0 lo : Nat) : Int) ((sIx n n hi : Nat) : Int) 1)) _ _ s
  rw [places_gen]
  exact wpAny_pure h
theorem pick_gen (xs : Array Value) (i k : Nat) : ((List.range k).filterMap fun (m : Nat) => xs[((i : Int) + (m : Int) * 1).toNat]?).toArray = ((xs.toList.drop i).take k).toArray := by
  have e : (fun (m : Nat) => xs[((i : Int) + (m : Int) * 1).toNat]?) = fun m => xs[i + m]? := by
    funext m
    have : ((i : Int) + (m : Int) * 1).toNat = i + m := by omega
    rw [this]
  rw [e]
  have := pick_run xs i k
  rw [List.filterMap_map] at this
  have e2 : ((fun x => xs[x]?) ∘ fun x => i + x) = fun m => xs[i + m]? := rfl
  rw [e2] at this
  rw [this]

theorem getItem_tuple_cut {t sl : Addr} {items : Array Value} {vl vu : Value} {lo hi : Option Int} {Q : Value → Shared → Prop} (ht : IsTup s.heap t items) (hs : s.heap.IsSliceOf sl vl vu .none) (pl : IsPart vl lo) (pu : IsPart vu hi)
    (hw : ¬ (sIx items.size 0 lo = 0 ∧ sIx items.size items.size hi = items.size))
    (h : Q (.ref s.heap.objs.size) { s with heap := s.heap.push { cls := .type "tuple", data := .seq ((items.toList.drop (sIx items.size 0 lo)).take (sIx items.size items.size hi - sIx items.size 0 lo)).toArray } })
    (hsz : items.size ≤ sizeLine) : wpAny (model prog w) A (getItem (.ref t) (.ref sl)) Q E s := by
  have htake : sizeOk (.seq ((items.toList.drop (sIx items.size 0 lo)).take (sIx items.size items.size hi - sIx items.size 0 lo)).toArray) := by
    show ((items.toList.drop (sIx items.size 0 lo)).take (sIx items.size items.size hi - sIx items.size 0 lo)).toArray.size ≤ sizeLine
    rw [List.size_toArray, List.length_take, List.length_drop, Array.length_toList]
    omega
  have hj : sIx items.size items.size hi ≤ items.size := sIx_le _ _ (Nat.le_refl _) hi
  obtain ⟨os, hos, hcs, hds⟩ := id hs
  have hTs : s.TypeIs (.ref sl) "slice" := ⟨os, hos, hcs⟩
  unfold getItem
  try with_reducible refine wpAny_holding ?_
  first | refine wpAny_bind (wpAny_pure ?_) | skip
  refine wpAny_bind (wpAny_sequenceKey ht.typeIs (by decide) ?_)
  refine wpAny_bind (wpAny_callSpecial?_slot (name := Str.ofString "__getitem__") ht.typeIs PyProof.Rows.slot_tuple_getitem
    (wpAny_call_entry PyProof.Rows.slot_tuple_getitem ht.typeIs entry_tuple_getitem ?_ (args_tuple_getitem _ _)))
  show wpAny _ _ (Builtin.Tuple.tupleItemsOf (.ref t) >>= _) _ _ s
  refine wpAny_bind (tupleItemsOf_ ht ?_)
  refine wpAny_bind (wpAny_typeOf hTs ?_)
  rw [if_pos (by decide)]
  refine wpAny_bind (sliceApplied_gen hs pl pu ?_)
  have hno : ¬ ((((sIx items.size 0 lo : Nat) : Int) == 0 && (1 : Int) == 1 && (sIx items.size items.size hi - sIx items.size 0 lo) == items.size) = true) := by
    intro q
    rw [Bool.and_eq_true, Bool.and_eq_true] at q
    have q1 : ((sIx items.size 0 lo : Nat) : Int) = 0 := eq_of_beq q.1.1
    have q2 : sIx items.size items.size hi - sIx items.size 0 lo = items.size := eq_of_beq q.2
    exact hw ⟨by omega, by omega⟩
  show wpAny _ _ (if (((sIx items.size 0 lo : Nat) : Int) == 0 && (1 : Int) == 1 && (sIx items.size items.size hi - sIx items.size 0 lo) == items.size) = true then _ else _) _ _ s
  rw [if_neg hno, pick_gen]
  first
    | exact wpAny_bind (m := Builtin.Tuple.tupleExact _) (wpAny_newObj_type (wpAny_pure ⟨_, rfl, wpAny_pure h⟩) htake)
    | exact wpAny_bind (m := Builtin.Tuple.tupleExact _) (wpAny_newObj_type (wpAny_bind (wpAny_pure (wpAny_pure ⟨_, rfl, wpAny_pure h⟩))) htake)
    | exact wpAny_bind (wpAny_bind (m := Builtin.Tuple.tupleExact _) (wpAny_newObj_type (wpAny_pure (wpAny_pure ⟨_, rfl, wpAny_pure h⟩)) htake))
    | exact wpAny_bind (wpAny_bind (m := Builtin.Tuple.tupleExact _) (wpAny_newObj_type (wpAny_pure ⟨_, rfl, wpAny_pure h⟩) htake))
end
end HT

namespace L2
open PySem PySem.Spec PyProof.Rows

/-! ### the parts of a slice -/
noncomputable abbrev TO := St → Hp → (Option Int → Hp → Prop) → Prop
/-- a slice's part (left out, or an int) -/
noncomputable def PO (X : Cx) (e : Option Expr) (t : TO) : Prop :=
  ∀ (pins : List (Addr × Obj)) (s : Shared) (σ : St) (H : Hp) (Q : Option Int → Hp → Prop), Inv X pins σ H s → t σ H Q →
    wpAny (model X.prog X.w) X.A (evalPart e X.env) (fun u s' => ∃ o H', Inv X pins σ H' s' ∧ IsPart u o ∧ Q o H') X.xe s
noncomputable def tNoPart : TO := fun _ H Q => Q none H
noncomputable def tPart (t : TE) : TO := fun σ H Q => t σ H fun x H1 => ∃ i, x = .int i ∧ Q (some i) H1

theorem intsAre_of {ns : List Int} : ∀ {us : List Value}, Vals (ns.map V.int) us → IntsAre us ns := by
  induction ns with
  | nil => intro us r; rw [List.map_nil] at r; cases r; exact .nil
  | cons n ns ih =>
    intro us r
    rw [List.map_cons] at r
    cases r with
    | cons r1 r2 =>
      obtain ⟨t, e⟩ := r1
      subst e
      exact .cons n t (ih r2)

section
variable {X : Cx} {e : Expr} {te : TE} {lo hi : Option Expr} {tl th : TO} {pos p2 : Pos}

theorem po_none : PO X none tNoPart := by
  intro pins s σ H Q I h
  rw [evalPart_none]
  exact wpAny_pure ⟨none, H, I, .none, h⟩
theorem po_some (h : PE X e te) : PO X (some e) (tPart te) := by
  intro pins s σ H Q I hw
  rw [evalPart_some]
  refine thn (h pins s σ H _ I hw) fun u s1 ⟨x, H1, I1, r1, q1⟩ => ?_
  obtain ⟨i, rfl, q⟩ := q1
  obtain ⟨t, rfl⟩ := r1
  exact ⟨some i, H1, I1, .int i t, q⟩

/-- what a slice of a value is, by values: the slice object stands at sl -/
noncomputable def SlR (X : Cx) (r : V → Option Int → Option Int → Hp → VK → Prop) : Prop :=
  ∀ (pins : List (Addr × Obj)) (s : Shared) (σ : St) (H : Hp) (x : V) (v vl vu : Value) (lo hi : Option Int) (sl : Addr) (Q : VK), Inv X pins σ H s → RelV x v → s.heap.IsSliceOf sl vl vu .none → IsPart vl lo → IsPart vu hi → r x lo hi H Q →
    ∃ T id, typeLookup (.type T) "__getitem__" = pure (some (.builtin id)) ∧ s.TypeIs v T ∧ wpAny (model X.prog X.w) X.A (getItem v (.ref sl)) (EP X pins σ Q) X.xe s
noncomputable def tSl (r : V → Option Int → Option Int → Hp → VK → Prop) (te : TE) (tl th : TO) : TE := fun σ H Q => te σ H fun x H1 => tl σ H1 fun l H2 => th σ H2 fun u H3 => r x l u H3 Q
/-- a[lo:hi], any a -/
theorem pe_slice {r : V → Option Int → Option Int → Hp → VK → Prop} (hr : SlR X r) (he : PE X e te) (hl : PO X lo tl) (hu : PO X hi th) : PE X (.Subscript e (.Slice lo hi none p2) pos) (tSl r te tl th) := by
  intro pins s σ H Q I h
  refine Subscript_ (thn (he pins s σ H _ I h) fun v s1 ⟨x, H1, I1, r1, q1⟩ => ?_)
  refine wpAny_Slice (thn (hl pins s1 σ H1 _ I1 q1) fun vl s2 ⟨l, H2, I2, pl, q2⟩ => thn (hu pins s2 σ H2 _ I2 q2) fun vu s3 ⟨u, H3, I3, pu, q3⟩ => ?_)
  rw [evalPart_none]
  refine wpAny_pure ?_
  have I4 : Inv X pins σ H3 { s3 with heap := s3.heap.push { cls := .type "slice", data := .fields #[vl, vu, .none] } } := I3.kept (t' := s3.toks) fun b ob q => Heap.get?_push_of_some _ q
  obtain ⟨T, id, hT, ht, hg⟩ := hr pins { s3 with heap := s3.heap.push { cls := .type "slice", data := .fields #[vl, vu, .none] } } σ H3 x v vl vu l u s3.heap.objs.size Q I4 r1 (Heap.IsSliceOf.new ..) pl pu q3
  show wpAny (model X.prog X.w) X.A (subscriptTail e (.Slice lo hi none p2) v (.ref s3.heap.objs.size)) (EP X pins σ Q) X.xe { s3 with heap := s3.heap.push { cls := .type "slice", data := .fields #[vl, vu, .none] } }
  exact tail_any (ops := [.ref s3.heap.objs.size, v]) ht hT hg (by with_unfolding_all rfl)

/-- the items of xs[lo:hi] -/
noncomputable def cutV (xs : List V) (lo hi : Option Int) : List V := (xs.drop (HT.sIx xs.length 0 lo)).take (HT.sIx xs.length xs.length hi - HT.sIx xs.length 0 lo)
theorem cutV_length (xs : List V) (lo hi : Option Int) : (cutV xs lo hi).length ≤ xs.length := by
  unfold cutV
  rw [List.length_take, List.length_drop]
  omega
/-- t[lo:hi], not the whole of it (the whole would be t itself) -/
noncomputable def rSlT (K : PySem.W.Frag) : V → Option Int → Option Int → Hp → VK → Prop := fun x lo hi H Q => ∃ a xs, x = .ref a ∧ SqT K H a xs ∧
  ¬ (HT.sIx xs.length 0 lo = 0 ∧ HT.sIx xs.length xs.length hi = xs.length) ∧ ∀ p, H p = none → Q (.ref p) (upd H p (.tup (cutV xs lo hi)))
theorem sl_tup : SlR X (rSlT X.K) := by
  intro pins s σ H x v vl vu lo hi sl Q I rx hs pl pu h
  obtain ⟨a, xs, rfl, hx, hw, q⟩ := h
  cases rx
  obtain ⟨its, r, ht, hz⟩ := I.tuple hx
  have hlen : its.toArray.size = xs.length := by rw [List.size_toArray]; exact r.length.symm
  refine ⟨"tuple", _, PyProof.Rows.slot_tuple_getitem.lookup, ht.typeIs, ?_⟩
  refine HT.getItem_tuple_cut ht hs pl pu (by rw [hlen]; exact hw) ?_ (by rw [hlen]; exact hz)
  rw [hlen]
  refine ⟨.ref s.heap.objs.size, _, I.laid (t' := s.toks) (o := .tup (cutV xs lo hi)) (fun b ob q => Heap.get?_push_of_some _ q) (Nat.le_refl _) ?_, rfl, q _ (I.hok.fresh (Nat.le_refl _))⟩
  exact ⟨Nat.le_trans (cutV_length xs lo hi) hz, _, (r.drop (HT.sIx xs.length 0 lo)).take (HT.sIx xs.length xs.length hi - HT.sIx xs.length 0 lo), IsTup.new _ _⟩

/-! ### t < u, t + u -/
/-- t + u, t not empty: u empty gives t itself -/
noncomputable def rCatT (K : PySem.W.Frag) : R2 := fun x y H Q => ∃ a b xs ys, x = .ref a ∧ y = .ref b ∧ SqT K H a xs ∧ SqT K H b ys ∧ xs ≠ [] ∧ xs.length + ys.length ≤ sizeLine ∧
  (ys = [] → Q (.ref a) H) ∧ (ys ≠ [] → ∀ p, H p = none → Q (.ref p) (upd H p (.tup (xs ++ ys))))
theorem Vals.nil_iff {xs : List V} {us : List Value} (r : Vals xs us) : us = [] ↔ xs = [] := by
  cases r with
  | nil => simp
  | cons _ _ => simp
theorem op_catT : OpR X (binaryOp .Add) (rCatT X.K) := by
  intro pins s σ H x y v u Q I rx ry h
  obtain ⟨a, b, xs, ys, rfl, rfl, ha, hb, hx, hz, q1, q2⟩ := h
  cases rx
  cases ry
  obtain ⟨its, r1, p1, _⟩ := I.tuple ha
  obtain ⟨its2, r2, p2, _⟩ := I.tuple hb
  refine HT.cat_tup p1 p2 (fun z => hx (r1.nil_iff.mp z)) (fun z => ⟨.ref a, H, I, rfl, q1 (r2.nil_iff.mp z)⟩) (fun z => ?_) (by rw [← r1.length, ← r2.length]; exact hz)
  refine ⟨.ref s.heap.objs.size, _, I.laid (t' := s.toks) (o := .tup (xs ++ ys)) (fun b ob q => Heap.get?_push_of_some _ q) (Nat.le_refl _) ?_, rfl, q2 (fun w => z (r2.nil_iff.mpr w)) _ (I.hok.fresh (Nat.le_refl _))⟩
  exact ⟨by rw [List.length_append]; exact hz, _, r1.append r2, IsTup.new _ _⟩
end
end L2

namespace L2
open PySem PySem.Spec PyProof.Rows

/-! ### places -/
/-- the place that an index of any sign means -/
noncomputable def ixN (n : Nat) (i : Int) : Option Nat := if 0 ≤ i then (if i < n then some i.toNat else none) else if -(n : Int) ≤ i then some (i + n).toNat else none
noncomputable def atI {α : Type} (xs : List α) (i : Int) : Option α := (ixN xs.length i).bind fun j => xs[j]?
theorem ixN_seq {n : Nat} {i : Int} {j : Nat} (h : ixN n i = some j) : seqIndex? i n = some j ∧ j < n ∧ -(n : Int) ≤ i ∧ i < n := by
  unfold ixN at h
  by_cases h0 : 0 ≤ i
  · rw [if_pos h0] at h
    by_cases h1 : i < n
    · rw [if_pos h1] at h
      have e : i.toNat = j := Option.some.inj h
      exact ⟨by rw [seqIndex_of h0 h1, e], by omega, by omega, h1⟩
    · rw [if_neg h1] at h; cases h
  · rw [if_neg h0] at h
    by_cases h1 : -(n : Int) ≤ i
    · rw [if_pos h1] at h
      have e : (i + n).toNat = j := Option.some.inj h
      exact ⟨by rw [seqIndex_neg (by omega) h1, e], by omega, h1, by omega⟩
    · rw [if_neg h1] at h; cases h
theorem atI_get {α : Type} {xs : List α} {i : Int} {v : α} (h : atI xs i = some v) : ∃ j, seqIndex? i xs.length = some j ∧ xs[j]? = some v ∧ j < xs.length ∧ -(xs.length : Int) ≤ i ∧ i < xs.length := by
  unfold atI at h
  cases e : ixN xs.length i with
  | none => rw [e] at h; cases h
  | some j =>
    rw [e] at h
    obtain ⟨h1, h2, h3, h4⟩ := ixN_seq e
    exact ⟨j, h1, h, h2, h3, h4⟩
theorem atI_nat {α : Type} {xs : List α} {j : Nat} {v : α} (h : xs[j]? = some v) : atI xs (j : Int) = some v := by
  have hj : j < xs.length := (List.getElem?_eq_some_iff.mp h).1
  have e : ixN xs.length (j : Int) = some j := by
    unfold ixN
    rw [if_pos (by omega), if_pos (by omega)]; simp
  unfold atI; rw [e]; exact h

/-! ### what may be subscripted -/
/-- what stands as an index of a plain subscript -/
noncomputable def PlainIx (b : Expr) : Prop := ∀ o i, subscripted b false o i = operate [o, i] (getItem o i)
/-- a subscript by values -/
noncomputable def IxR (X : Cx) (r : R2) : Prop :=
  ∀ (value slice : Expr) (pins : List (Addr × Obj)) (s : Shared) (σ : St) (H : Hp) (x y : V) (v u : Value) (Q : VK), Inv X pins σ H s → RelV x v → RelV y u → r x y H Q →
    subscripted slice false v u = operate [v, u] (getItem v u) → wpAny (model X.prog X.w) X.A (subscriptTail value slice v u) (EP X pins σ Q) X.xe s
/-- a call of a builtin's method by values: the receiver, the arguments -/
noncomputable def MtR (X : Cx) (id : String) (r : V → List V → Hp → VK → Prop) : Prop :=
  ∀ (pins : List (Addr × Obj)) (s : Shared) (σ : St) (H : Hp) (x : V) (xs : List V) (v : Value) (us : List Value) (Q : VK), Inv X pins σ H s → RelV x v → Vals xs us → r x xs H Q →
    wpAny (model X.prog X.w) X.A (call (.builtin id) (v :: us)) (EP X pins σ Q) X.xe s
section
variable {X : Cx} {a b : Expr} {ta tb : TE} {pos : Pos}
/-- a[b] -/
theorem pe_ix {r : R2} (hr : IxR X r) (ha : PE X a ta) (hb : PE X b tb) (hs : PlainIx b) : PE X (.Subscript a b pos) (tOp r ta tb) := by
  intro pins s σ H Q I h
  exact Subscript_ (binT ha hb I h fun v u s2 x y H2 I2 rx ry q => hr a b pins s2 σ H2 x y v u Q I2 rx ry q (hs _ _))

noncomputable def rIxL (K : PySem.W.Frag) : R2 := fun x y H Q => ∃ p xs i v, x = .ref p ∧ y = .int i ∧ SqL K H p xs ∧ atI xs i = some v ∧ Q v H
noncomputable def rIxT (K : PySem.W.Frag) : R2 := fun x y H Q => ∃ p xs i v, x = .ref p ∧ y = .int i ∧ SqT K H p xs ∧ atI xs i = some v ∧ Q v H
noncomputable def rIxS : R2 := fun x y H Q => ∃ z i c, x = .str z ∧ y = .int i ∧ z.length ≤ sizeLine ∧ atI z.cps.toList i = some c ∧ Q (.str ⟨#[c]⟩) H
theorem ix_list : IxR X (rIxL X.K) := by
  intro value slice pins s σ H x y v u Q I rx ry h hs
  obtain ⟨p, xs, i, z, rfl, rfl, hq, he, q⟩ := h
  cases rx
  obtain ⟨t, rfl⟩ := ry
  obtain ⟨its, r, pl, hz⟩ := I.list hq
  obtain ⟨j, h1, h2, h3, h4, h5⟩ := atI_get he
  obtain ⟨w, ew, rw'⟩ := r.get h2
  have hl := r.length
  have hn := line63
  have fin : EP X pins σ Q w s := ⟨z, H, I, rw', q⟩
  by_cases h0 : 0 ≤ i
  · have hj : i.toNat = j := by
      rw [seqIndex_of h0 h5] at h1
      exact Option.some.inj h1
    exact item_listR pl.isList h0 (by omega) (by rw [hj]; simpa using ew) fin hs
  · have hj : (i + (its.toArray.size : Int)).toNat = j := by
      rw [seqIndex_neg (by omega) h4] at h1
      rw [List.size_toArray, ← hl]
      exact Option.some.inj h1
    exact subscriptTail_builtinR (x := w) pl.isList.typeIs slot_list_getitem.lookup
      (wpAny_getItem_list_neg (Q := fun r s' => r = w ∧ EP X pins σ Q r s') pl.isList (by omega) (by rw [List.size_toArray] <;> omega) (by omega) (by rw [hj]; simpa using ew) ⟨rfl, fin⟩) hs
theorem ix_tup : IxR X (rIxT X.K) := by
  intro value slice pins s σ H x y v u Q I rx ry h hs
  obtain ⟨p, xs, i, z, rfl, rfl, hq, he, q⟩ := h
  cases rx
  obtain ⟨t, rfl⟩ := ry
  obtain ⟨its, r, pl, hz⟩ := I.tuple hq
  obtain ⟨j, h1, h2, h3, h4, h5⟩ := atI_get he
  obtain ⟨w, ew, rw'⟩ := r.get h2
  have hl := r.length
  have hn := line63
  have fin : EP X pins σ Q w s := ⟨z, H, I, rw', q⟩
  exact subscriptTail_builtinR (x := w) pl.typeIs slot_tuple_getitem.lookup
    (getItem_tuple (j := j) (Q := fun r s' => r = w ∧ EP X pins σ Q r s') pl (by omega) (by omega) (by rw [List.size_toArray, ← hl]; exact h1) (by simpa using ew) ⟨rfl, fin⟩) hs
theorem ix_str : IxR X rIxS := by
  intro value slice pins s σ H x y v u Q I rx ry h hs
  obtain ⟨z, i, c, rfl, rfl, hz, he, q⟩ := h
  obtain ⟨t, rfl⟩ := rx
  obtain ⟨t', rfl⟩ := ry
  obtain ⟨j, h1, h2, h3, h4, h5⟩ := atI_get he
  have hl : z.cps.toList.length = z.length := by simp [Str.length]
  rw [hl] at h1 h4 h5
  have hn := line63
  exact tail_any (typeIs_str s z t) slot_str_getitem.lookup (getItem_str (c := c) (by
    have e1 : decide (i < -(2 ^ 63 : Int)) = false := decide_eq_false (by omega)
    have e2 : decide (i ≥ 2 ^ 63) = false := decide_eq_false (by omega)
    rw [e1, e2, Bool.or_false]) (by rw [h1]; simpa using h2) ⟨.str ⟨#[c]⟩, H, I.tok _, ⟨_, rfl⟩, q⟩) hs

/-! ### xs[i] = v, any sign -/
/-- the list's object behind a store -/
theorem mapSeq_set (its : List Value) (n j : Nat) (u : Value) : Obj.mapSeq (·.setIfInBounds j u) { cls := .type "list", data := .seq its.toArray n } = { cls := .type "list", data := .seq (its.set j u).toArray n } := by
  simp [Obj.mapSeq]
theorem Inv.lst {pins : List (Addr × Obj)} {σ : St} {H : Hp} {s : Shared} {p : Addr} {xs : List V} (I : Inv X pins σ H s) (h : H p = some (.lst xs)) :
    ∃ (its : List Value) (n : Nat), Vals xs its ∧ s.heap.get? p = some { cls := .type "list", data := .seq its.toArray n } ∧ xs.length ≤ sizeLine := by
  obtain ⟨z, its, n, r, e⟩ := I.hok p _ h
  exact ⟨its, n, r, e, z⟩
/-- the list at p is written by an update of its object -/
theorem Inv.lstUpd {pins : List (Addr × Obj)} {σ : St} {H : Hp} {s : Shared} {p : Addr} {xs ys : List V} {its its' : List Value} {n n' : Nat} {f : Obj → Obj} (I : Inv X pins σ H s) (h : H p = some (.lst xs))
    (ho : s.heap.get? p = some { cls := .type "list", data := .seq its.toArray n }) (hf : f { cls := .type "list", data := .seq its.toArray n } = { cls := .type "list", data := .seq its'.toArray n' }) (r : Vals ys its') (hz : ys.length ≤ sizeLine) (t : Nat) :
    Inv X pins σ (upd H p (.lst ys)) { s with heap := s.heap.update p f, toks := t } := by
  have e : (s.heap.update p f).get? p = some { cls := .type "list", data := .seq its'.toArray n' } := by
    rw [Heap.get?_update_self f ho (by rw [hf] <;> rfl), hf]
  refine I.write (x := p) (e := p) (by rw [h]; trivial) (.inl rfl) (fun b u hb q => (Heap.get?_update_other _ _ (Ne.symm hb)).trans q) ⟨_, e⟩ ?_
  exact ⟨hz, its', n', r, e⟩
noncomputable def rSetL : V → V → V → Hp → (Hp → Prop) → Prop := fun o i v H Q => ∃ p xs k j, o = .ref p ∧ i = .int k ∧ H p = some (.lst xs) ∧ ixN xs.length k = some j ∧ Q (upd H p (.lst (xs.set j v)))
theorem set_list : PSet X rSetL := by
  intro pins s σ H o i v ov iv u Q I ro ri rv h
  obtain ⟨p, xs, k, j, rfl, rfl, hp, hj, q⟩ := h
  cases ro
  obtain ⟨t, rfl⟩ := ri
  obtain ⟨its, n, r, ho, hz⟩ := I.lst hp
  obtain ⟨h1, h2, h3, h4⟩ := ixN_seq hj
  have hl := r.length
  have hn := line63
  have I' : Inv X pins σ (upd H p (.lst (xs.set j v))) { s with heap := s.heap.update p (Obj.mapSeq (·.setIfInBounds j u)) } :=
    I.lstUpd hp ho (mapSeq_set its n j u) (r.set rv j) (by rw [List.length_set]; exact hz) s.toks
  by_cases h0 : 0 ≤ k
  · have hk : k.toNat = j := by
      rw [seqIndex_of h0 h4] at h1
      exact Option.some.inj h1
    exact PySem.W.ki_setAt ho h0 (by omega) (by rw [List.size_toArray, ← hl]; exact h4) (by rw [hk]; exact ⟨_, I', q⟩)
  · have hk : (k + (its.toArray.size : Int)).toNat = j := by
      rw [seqIndex_neg (by omega) h3] at h1
      rw [List.size_toArray, ← hl]
      exact Option.some.inj h1
    exact PySem.W.ki_setBack ho (by omega) (by rw [List.size_toArray, ← hl]; exact h3) (by omega) (by rw [hk]; exact ⟨_, I', q⟩)

/-! ### slices -/
theorem slice_bounds (lo hi : Option Int) (n : Nat) : (sliceBounds lo hi none n).1 = ((HT.sIx n 0 lo : Nat) : Int) ∧ (sliceBounds lo hi none n).2.1 = ((HT.sIx n n hi : Nat) : Int) ∧ (sliceBounds lo hi none n).2.2 = 1 := by
  refine ⟨?_, ?_, rfl⟩
  · cases lo with
    | none => simp [sliceBounds, HT.sIx]
    | some i =>
      simp only [sliceBounds, HT.sIx, Option.getD_none, show (1 : Int) > 0 by decide, if_true]
      by_cases h : i < 0
      · simp only [h, if_true] <;> omega
      · simp only [h, if_false] <;> omega
  · cases hi with
    | none => simp [sliceBounds, HT.sIx]
    | some i =>
      simp only [sliceBounds, HT.sIx, Option.getD_none, show (1 : Int) > 0 by decide, if_true]
      by_cases h : i < 0
      · simp only [h, if_true] <;> omega
      · simp only [h, if_false] <;> omega
theorem slicePick_cut (its : List Value) (lo hi : Option Int) : slicePick its.toArray lo hi none = ((its.drop (HT.sIx its.length 0 lo)).take (HT.sIx its.length its.length hi - HT.sIx its.length 0 lo)).toArray := by
  obtain ⟨h1, h2, h3⟩ := slice_bounds lo hi its.toArray.size
  unfold slicePick
  rw [h1, h2, h3]
  simp only [sliceRange_one, pick_run, List.size_toArray] <;> rfl
/-- xs[lo:hi] of a list: a new list -/
noncomputable def rSlL (K : PySem.W.Frag) : V → Option Int → Option Int → Hp → VK → Prop := fun x lo hi H Q => ∃ a xs, x = .ref a ∧ SqL K H a xs ∧ ∀ p, H p = none → Q (.ref p) (upd H p (.lst (cutV xs lo hi)))
theorem sl_list : SlR X (rSlL X.K) := by
  intro pins s σ H x v vl vu lo hi sl Q I rx hs pl pu h
  obtain ⟨a, xs, rfl, hx, q⟩ := h
  cases rx
  obtain ⟨its, r, ht, hz⟩ := I.list hx
  have hlen := r.length
  refine ⟨"list", _, slot_list_getitem.lookup, ht.isList.typeIs, ?_⟩
  refine wpAny_getItem_list_slice ht.isList hs pl pu .none (by simp) ?_ (by rw [List.size_toArray] <;> omega)
  rw [slicePick_cut, ← hlen]
  refine ⟨.ref s.heap.objs.size, _, I.laid (t' := s.toks) (o := .lst (cutV xs lo hi)) (fun b ob q => Heap.get?_push_of_some _ q) (Nat.le_refl _) ?_, rfl, q _ (I.hok.fresh (Nat.le_refl _))⟩
  exact ⟨Nat.le_trans (cutV_length xs lo hi) hz, _, 0, (r.drop (HT.sIx xs.length 0 lo)).take (HT.sIx xs.length xs.length hi - HT.sIx xs.length 0 lo), Heap.get?_push_size _ rfl⟩

/-! ### in, not in: flat items -/
noncomputable def flatV : V → Bool
  | .non => true
  | .bl _ => true
  | .int _ => true
  | .str _ => true
  | _ => false
/-- == of flat values -/
noncomputable def eqV : V → V → Bool
  | .non, .non => true
  | .bl a, .bl b => a == b
  | .bl a, .int b => (if a then 1 else 0) == b
  | .int a, .bl b => a == (if b then 1 else 0)
  | .int a, .int b => a == b
  | .str a, .str b => a == b
  | _, _ => false
theorem eqAt_V {A : Around} {s : Shared} {y x : V} {u v : Value} (ry : RelV y u) (rx : RelV x v) (fy : flatV y = true) (fx : flatV x = true) : SeqAt.EqAt A s u v (eqV y x) := by
  cases y with
  | non =>
    cases ry
    cases x with
    | non => cases rx; exact SeqAt.EqAt.same _
    | bl b => cases rx; exact SeqAt.EqAt.none_bool b
    | int b => obtain ⟨t, rfl⟩ := rx; exact SeqAt.EqAt.none_int b t
    | str b => obtain ⟨t, rfl⟩ := rx; exact SeqAt.EqAt.none_str b t
    | _ => exact absurd (show false = true from fx) Bool.false_ne_true
  | bl a =>
    cases ry
    cases x with
    | non => cases rx; exact SeqAt.EqAt.bool_none a
    | bl b => cases rx; exact SeqAt.EqAt.bool_bool a b
    | int b => obtain ⟨t, rfl⟩ := rx; exact SeqAt.EqAt.bool_int a b t
    | str b => obtain ⟨t, rfl⟩ := rx; exact SeqAt.EqAt.bool_str a b t
    | _ => exact absurd (show false = true from fx) Bool.false_ne_true
  | int a =>
    obtain ⟨t', rfl⟩ := ry
    cases x with
    | non => cases rx; exact SeqAt.EqAt.int_none a t'
    | bl b => cases rx; exact SeqAt.EqAt.int_bool a t' b
    | int b => obtain ⟨t, rfl⟩ := rx; exact SeqAt.EqAt.int_int a t' b t
    | str b => obtain ⟨t, rfl⟩ := rx; exact SeqAt.EqAt.int_str a t' b t
    | _ => exact absurd (show false = true from fx) Bool.false_ne_true
  | str a =>
    obtain ⟨t', rfl⟩ := ry
    cases x with
    | non => cases rx; exact SeqAt.EqAt.str_none a t'
    | bl b => cases rx; exact SeqAt.EqAt.str_bool a t' b
    | int b => obtain ⟨t, rfl⟩ := rx; exact SeqAt.EqAt.str_int a t' b t
    | str b => obtain ⟨t, rfl⟩ := rx; exact SeqAt.EqAt.str_str a t' b t
    | _ => exact absurd (show false = true from fx) Bool.false_ne_true
  | _ => exact absurd (show false = true from fy) Bool.false_ne_true
/-- the items' answers, read off the values (a value's own answer does not lean on its token) -/
noncomputable def eqU (x : V) (u : Value) : Bool := match u with
  | .none => eqV .non x
  | .bool b => eqV (.bl b) x
  | .int i _ => eqV (.int i) x
  | .str z _ => eqV (.str z) x
  | _ => false
theorem eqU_of {x y : V} {u : Value} (r : RelV y u) (f : flatV y = true) : eqU x u = eqV y x := by
  cases y with
  | non => cases r; rfl
  | bl b => cases r; rfl
  | int i => obtain ⟨t, rfl⟩ := r; rfl
  | str z => obtain ⟨t, rfl⟩ := r; rfl
  | _ => exact absurd (show false = true from f) Bool.false_ne_true
theorem any_eqU {x : V} : ∀ {xs : List V} {us : List Value}, Vals xs us → xs.all flatV = true → us.any (eqU x) = xs.any fun y => eqV y x
  | _, _, .nil, _ => rfl
  | y :: xs, u :: us, .cons r t, f => by
    rw [List.all_cons, Bool.and_eq_true] at f
    rw [List.any_cons, List.any_cons, eqU_of r f.1, any_eqU t f.2]
theorem mem_eqAt {A : Around} {s : Shared} {x : V} {v : Value} (rx : RelV x v) (fx : flatV x = true) : ∀ {xs : List V} {us : List Value}, Vals xs us → xs.all flatV = true → ∀ u ∈ us, SeqAt.EqAt A s u v (eqU x u)
  | _, _, .nil, _ => fun u hu => by cases hu
  | y :: xs, u :: us, .cons r t, f => fun u' hu => by
    rw [List.all_cons, Bool.and_eq_true] at f
    rcases List.mem_cons.mp hu with rfl | hu
    · rw [eqU_of r f.1]; exact eqAt_V r rx f.1 fx
    · exact mem_eqAt rx fx t f.2 u' hu
noncomputable def inV (x : V) (xs : List V) : Bool := xs.any fun y => eqV y x
/-- x in a list or tuple of flat items -/
noncomputable def rIn (K : PySem.W.Frag) (neg : Bool) : R2 := fun x y H Q => ∃ p xs, y = .ref p ∧ (SqL K H p xs ∨ SqT K H p xs) ∧ flatV x = true ∧ xs.all flatV = true ∧ Q (.bl (if neg then !inV x xs else inV x xs)) H
theorem op_in_seq : OpR X (compareOp .In) (rIn X.K false) := by
  intro pins s σ H x y v u Q I rx ry h
  obtain ⟨p, xs, rfl, hq, fx, fs, q⟩ := h
  cases ry
  rcases hq with hq | hq
  · obtain ⟨its, r, pl, hz⟩ := I.list hq
    refine SeqAt.in_listAt (eqU x) pl.isList (fun w hw => mem_eqAt rx fx r fs w (by simpa using hw)) ⟨.bl _, H, I, rfl, ?_⟩
    rw [show its.toArray.any (eqU x) = its.any (eqU x) by simp, any_eqU r fs]
    exact q
  · obtain ⟨its, r, pl, hz⟩ := I.tuple hq
    refine SeqAt.in_tupleAt (eqU x) pl (fun w hw => mem_eqAt rx fx r fs w (by simpa using hw)) ⟨.bl _, H, I, rfl, ?_⟩
    rw [show its.toArray.any (eqU x) = its.any (eqU x) by simp, any_eqU r fs]
    exact q
theorem op_notIn_seq : OpR X (compareOp .NotIn) (rIn X.K true) := by
  intro pins s σ H x y v u Q I rx ry h
  obtain ⟨p, xs, rfl, hq, fx, fs, q⟩ := h
  cases ry
  rcases hq with hq | hq
  · obtain ⟨its, r, pl, hz⟩ := I.list hq
    refine SeqAt.notIn_listAt (eqU x) pl.isList (fun w hw => mem_eqAt rx fx r fs w (by simpa using hw)) ⟨.bl _, H, I, rfl, ?_⟩
    rw [show its.toArray.any (eqU x) = its.any (eqU x) by simp, any_eqU r fs]
    exact q
  · obtain ⟨its, r, pl, hz⟩ := I.tuple hq
    refine SeqAt.notIn_tupleAt (eqU x) pl (fun w hw => mem_eqAt rx fx r fs w (by simpa using hw)) ⟨.bl _, H, I, rfl, ?_⟩
    rw [show its.toArray.any (eqU x) = its.any (eqU x) by simp, any_eqU r fs]
    exact q

/-! ### len, list(x), tuple(x) of any list or tuple that is read -/
theorem call_len_seq : CallR X (.builtin "len") (fun xs H Q => ∃ p ys, xs = [.ref p] ∧ (SqL X.K H p ys ∨ SqT X.K H p ys) ∧ Q (.int ys.length) H) := by
  intro pins s σ H xs us Q I r h
  obtain ⟨p, ys, rfl, hq, q⟩ := h
  obtain ⟨u, rfl, rx⟩ := vals1 r
  cases rx
  have hn := line63
  rcases hq with hq | hq
  · obtain ⟨its, r', pl, hz⟩ := I.list hq
    have hlen := r'.length
    exact Calls.call_len_list pl.isList (by simp only [List.size_toArray] <;> omega) ⟨.int ys.length, H, I.tok _, ⟨s.toks + 1, by rw [List.size_toArray, hlen]⟩, q⟩
  · obtain ⟨its, r', pl, hz⟩ := I.tuple hq
    have hlen := r'.length
    exact len_tuple pl (by simp only [List.size_toArray] <;> omega) ⟨.int ys.length, H, I.tok _, ⟨s.toks + 1, by rw [List.size_toArray, hlen]⟩, q⟩
theorem call_len_str : CallR X (.builtin "len") (fun xs H Q => ∃ z, xs = [.str z] ∧ z.length ≤ sizeLine ∧ Q (.int z.length) H) := by
  intro pins s σ H xs us Q I r h
  obtain ⟨z, rfl, hz, q⟩ := h
  obtain ⟨u, rfl, t, rfl⟩ := vals1 r
  have hn := line63
  exact len_str (by omega) ⟨.int z.length, H, I.tok _, ⟨_, rfl⟩, q⟩
theorem call_list_of : CallR X (.type "list") (fun xs H Q => ∃ p ys, xs = [.ref p] ∧ (SqL X.K H p ys ∨ SqT X.K H p ys) ∧ ∀ l, H l = none → Q (.ref l) (upd H l (.lst ys))) := by
  intro pins s σ H xs us Q I r h
  obtain ⟨p, ys, rfl, hq, q⟩ := h
  obtain ⟨u, rfl, rx⟩ := vals1 r
  cases rx
  have fin : ∀ (its : List Value), Vals ys its → ys.length ≤ sizeLine → ∀ (h' : Heap) (c' : Nat), (∀ b o', s.heap.get? b = some o' → h'.get? b = some o') →
      h'.get? s.heap.objs.size = some { cls := .type "list", dict := none, data := .seq its.toArray c', slots := #[] } → EP X pins σ Q (.ref s.heap.objs.size) { s with heap := h' } := fun its r' hz h' c' kp e =>
    ⟨.ref s.heap.objs.size, _, I.laid (t' := s.toks) kp (Nat.le_refl _) (show ObjOk X.prog X.w _ h' _ (.lst ys) from ⟨hz, its, c', r', e⟩), rfl, q _ (I.hok.fresh (Nat.le_refl _))⟩
  rcases hq with hq | hq
  · obtain ⟨its, r', pl, hz⟩ := I.list hq
    have hlen := r'.length
    obtain ⟨o, ho, hc, n, hd⟩ := pl.isList
    exact call_list_seq p (.inl rfl) ho hc hd (fun h' c' kp e => fin its r' hz h' c' kp e) (by simp only [List.size_toArray] <;> omega)
  · obtain ⟨its, r', pl, hz⟩ := I.tuple hq
    have hlen := r'.length
    obtain ⟨o, ho, hc, n, hd⟩ := pl
    exact call_list_seq p (.inr rfl) ho hc hd (fun h' c' kp e => fin its r' hz h' c' kp e) (by simp only [List.size_toArray] <;> omega)
theorem call_tuple_of : CallR X (.type "tuple") (fun xs H Q => ∃ p ys, xs = [.ref p] ∧ ((SqL X.K H p ys ∧ ∀ l, H l = none → Q (.ref l) (upd H l (.tup ys))) ∨ (SqT X.K H p ys ∧ Q (.ref p) H))) := by
  intro pins s σ H xs us Q I r h
  obtain ⟨p, ys, rfl, h⟩ := h
  obtain ⟨u, rfl, rx⟩ := vals1 r
  cases rx
  rcases h with ⟨hq, q⟩ | ⟨hq, q⟩
  · obtain ⟨its, r', pl, hz⟩ := I.list hq
    have hlen := r'.length
    refine call_tuple_list pl.isList (fun h' kp => ?_) (by simp only [List.size_toArray] <;> omega)
    have I1 : Inv X pins σ H { s with heap := h' } := I.kept (t' := s.toks) kp
    have I2 : Inv X pins σ (upd H h'.objs.size (.tup ys)) { s with heap := h'.push { cls := .type "tuple", data := .seq its.toArray } } :=
      I1.laid (t' := s.toks) (fun b o e => Heap.get?_push_of_some _ e) (Nat.le_refl _) (show ObjOk X.prog X.w _ _ _ (.tup ys) from ⟨hz, its, r', IsTup.new _ _⟩)
    exact ⟨.ref h'.objs.size, _, I2, rfl, q _ (I1.hok.fresh (Nat.le_refl _))⟩
  · obtain ⟨its, r', pl, hz⟩ := I.tuple hq
    exact call_tuple_same pl ⟨.ref p, H, I, rfl, q⟩

/-! ### the call of a builtin's method: o.m(..) -/
/-- the value is of that builtin type -/
noncomputable def tyV (K : PySem.W.Frag) (T : String) (x : V) (H : Hp) : Prop := match x with
  | .str _ => T = "str"
  | .int _ => T = "int"
  | .ref p => (T = "list" ∧ ∃ xs, SqL K H p xs) ∨ (T = "tuple" ∧ ∃ o, K.lookup p = some o ∧ o.cls = .type "tuple" ∧ o.dict = none) ∨
      (T = "dict" ∧ ((∃ kvs, H p = some (.dK kvs)) ∨ ∃ kvs, H p = some (.dT kvs))) ∨ (T = "set" ∧ ∃ S n, H p = some (.set S n))
  | _ => False
theorem tyV_is {pins : List (Addr × Obj)} {σ : St} {H : Hp} {s : Shared} {T : String} {x : V} {v : Value} (I : Inv X pins σ H s) (r : RelV x v) (ty : tyV X.K T x H) :
    s.TypeIs v T ∧ ∀ a, v = .ref a → ∃ ob, s.heap.get? a = some ob ∧ ob.dict = none := by
  cases x with
  | str z =>
    obtain ⟨t, rfl⟩ := r
    cases (show T = "str" from ty)
    exact ⟨typeIs_str s z t, fun _ e => nomatch e⟩
  | int i =>
    obtain ⟨t, rfl⟩ := r
    cases (show T = "int" from ty)
    exact ⟨typeIs_int s i t, fun _ e => nomatch e⟩
  | ref p =>
    cases r
    rcases ty with ⟨rfl, xs, hq⟩ | ⟨rfl, o, hk, hc, hd⟩ | ⟨rfl, hk⟩ | ⟨rfl, S, n, hk⟩
    · obtain ⟨its, _, pl, _⟩ := I.list hq
      refine ⟨pl.isList.typeIs, fun a e => ?_⟩
      cases e
      obtain ⟨o, n, e, c, hd, _⟩ := pl
      exact ⟨o, e, hd⟩
    · refine ⟨⟨o, I.kIn p o hk, hc⟩, fun a e => ?_⟩
      cases e
      exact ⟨o, I.kIn _ o hk, hd⟩
    · have z : ∃ o, s.heap.get? p = some o ∧ o.ExactDict := by
        rcases hk with ⟨kvs, hk⟩ | ⟨kvs, hk⟩
        · obtain ⟨_, _, _, _, o, _, _, e, ex, _⟩ := I.hok p _ hk
          exact ⟨o, e, ex⟩
        · obtain ⟨_, _, _, _, o, _, _, e, ex, _⟩ := I.hok p _ hk
          exact ⟨o, e, ex⟩
      obtain ⟨o, e, ex⟩ := z
      refine ⟨⟨o, e, ex.1⟩, fun a e2 => ?_⟩
      cases e2
      exact ⟨o, e, ex.2.1⟩
    · obtain ⟨o, _, _, _, e, ex, _⟩ := I.hok p _ hk
      refine ⟨⟨o, e, ex.1⟩, fun a e2 => ?_⟩
      cases e2
      exact ⟨o, e, ex.2.1⟩
  | _ => exact False.elim ty
noncomputable def tBM0 (K : PySem.W.Frag) (T : String) (r : V → List V → Hp → VK → Prop) (to : TE) : TE := fun σ H Q => to σ H fun x H1 => tyV K T x H1 ∧ r x [] H1 Q
noncomputable def tBM (K : PySem.W.Frag) (T : String) (r : V → List V → Hp → VK → Prop) (to : TE) (t : TA) : TE := fun σ H Q => to σ H fun x H1 => tyV K T x H1 ∧ t σ H1 fun xs H2 => r x xs H2 Q
variable {o e : Expr} {es : List Expr} {to : TE} {t : TA} {name : Str} {apos cpos : Pos} {T id : String} {r : V → List V → Hp → VK → Prop}
theorem pe_bm0 (pa : PlainAttrs T) (slot : Slot T name id) (hty : typeOf (.builtin id) = pure (.type "method_descriptor")) (hm : MtR X id r) (ho : PE X o to)
    (hbase : attributeBase o name X.env (eval o X.env) = eval o X.env := by rfl) (hline : (apos.endLine == cpos.line) = true := by rfl) : PE X (.Call (.Attribute o name apos) [] [] cpos) (tBM0 X.K T r to) := by
  intro pins s σ H Q I h
  refine wpAny_Call_method0_late hbase hline (thn (ho pins s σ H _ I h) fun v s1 ⟨x, H1, I1, r1, ty, q1⟩ => ?_)
  obtain ⟨h1, h2⟩ := tyV_is I1 r1 ty
  exact ⟨T, id, pa, slot, hty, h1, h2, Calls.callWith_builtin rfl (PySem.evalArgs_none (hm pins s1 σ H1 x [] v [] Q I1 r1 .nil q1))⟩
theorem pe_bm (pa : PlainAttrs T) (slot : Slot T name id) (hty : typeOf (.builtin id) = pure (.type "method_descriptor")) (hm : MtR X id r) (ho : PE X o to) (ha : PA X (e :: es) t)
    (hbase : attributeBase o name X.env (eval o X.env) = eval o X.env := by rfl)
    (hfew : ((backTo cpos (starEach (e :: es) X.env)).all (fun x => !x.1) && (backToKw cpos (keywordEach [] X.env)).all (fun x => x.1.isSome)
      && decide ((e :: es).length + ([] : List Keyword).length + (if ([] : List Keyword).isEmpty then 0 else 1) < 30)) = true := by rfl)
    (hline : (apos.endLine == cpos.line) = true := by rfl) (hs : starEach (e :: es) X.env = (false, eval e X.env) :: starEach es X.env := by rfl) (hplain : (backTo cpos (starEach es X.env)).any (·.1) = false := by rfl) :
    PE X (.Call (.Attribute o name apos) (e :: es) [] cpos) (tBM X.K T r to t) := by
  intro pins s σ H Q I h
  refine wpAny_Call_method_late hbase hfew hline rfl (thn (ho pins s σ H _ I h) fun v s1 ⟨x, H1, I1, r1, ty, q1⟩ => ?_)
  obtain ⟨h1, h2⟩ := tyV_is I1 r1 ty
  refine ⟨T, id, pa, slot, hty, h1, h2, ?_⟩
  have hA := ha cpos pins s1 σ H1 _ I1 q1
  rw [hs] at hA ⊢
  refine Calls.callWith_builtin (by show (false || (backTo cpos (starEach es X.env)).any (·.1)) = false; rw [hplain] <;> rfl) (Calls.evalArgs_plain ?_)
  exact thn hA fun us s2 ⟨vs, H2, I2, r2, q2⟩ => hm pins s2 σ H2 x vs v us Q I2 r1 r2 q2
/- xs.append(e), list.index on a module's tuple .. are MtR facts of 06m -/
end
end L2

namespace L2
open PySem PySem.Spec PyProof.Rows

noncomputable def MtM (X : Cx) (id : String) (r : V → List V → Hp → VK → Prop) : Prop :=
  ∀ (pins : List (Addr × Obj)) (s : Shared) (σ : St) (H : Hp) (x : V) (xs : List V) (v : Value) (us : List Value) (Q : VK), Inv X pins σ H s → RelV x v → Vals xs us → r x xs H Q →
    wpAny (model X.prog X.w) X.A (call (.builtin id) (v :: us)) (EP X pins σ Q) X.xe s

/-! ### lists of values -/
theorem Vals.one : ∀ {x : V} {us : List Value}, Vals [x] us → ∃ u, us = [u] ∧ RelV x u
  | _, _, .cons r .nil => ⟨_, rfl, r⟩
theorem Vals.two : ∀ {x y : V} {us : List Value}, Vals [x, y] us → ∃ u v, us = [u, v] ∧ RelV x u ∧ RelV y v
  | _, _, _, .cons r (.cons q .nil) => ⟨_, _, rfl, r, q⟩
theorem Vals.zero : ∀ {us : List Value}, Vals [] us → us = []
  | _, .nil => rfl
theorem Vals.dropLast {xs : List V} {us : List Value} (h : Vals xs us) : Vals xs.dropLast us.dropLast := by
  induction h with
  | nil => exact .nil
  | cons r t ih =>
    cases t with
    | nil => exact .nil
    | cons q t' => exact .cons r ih
theorem Vals.rep {xs : List V} {us : List Value} (h : Vals xs us) : ∀ k : Nat, Vals (List.replicate k xs).flatten (List.replicate k us).flatten
  | 0 => .nil
  | k + 1 => by
    rw [List.replicate_succ, List.replicate_succ, List.flatten_cons, List.flatten_cons]
    exact Vals.append h (Vals.rep h k)
theorem erase_last {α : Type} (l : List α) : l.eraseIdx (l.length - 1) = l.dropLast := by
  induction l with
  | nil => rfl
  | cons a r ih =>
    cases r with
    | nil => rfl
    | cons b r =>
      have e : (a :: b :: r).length - 1 = ((b :: r).length - 1) + 1 := by
        have h1 : (a :: b :: r).length = r.length + 2 := rfl
        have h2 : (b :: r).length = r.length + 1 := rfl
        omega
      rw [e, List.eraseIdx_cons_succ, ih]
      all_goals rfl
theorem foldl_rep (its : List Value) : ∀ (k : Nat) (acc : List Value),
    List.foldl (fun x1 x2 => x1 ++ x2) acc.toArray (List.replicate k its.toArray) = (acc ++ (List.replicate k its).flatten).toArray
  | 0, acc => by simp
  | k + 1, acc => by
    have e : acc.toArray ++ its.toArray = (acc ++ its).toArray := by simp
    have e2 : (acc ++ its) ++ (List.replicate k its).flatten = acc ++ (List.replicate (k + 1) its).flatten := by
      rw [List.replicate_succ, List.flatten_cons, List.append_assoc]
    rw [← e2, ← foldl_rep its k (acc ++ its), ← e, List.replicate_succ, List.foldl_cons]

section
variable {X : Cx} {pins : List (Addr × Obj)} {σ : St} {H : Hp} {s : Shared} {l b : Addr} {xs ys zs : List V}

/-! ### the two steps: a tracked list is rewritten, a new list is laid -/
theorem Inv.lset {its its' : List Value} {n : Nat} {f : Array Value → Array Value} {t' : Nat} (I : Inv X pins σ H s) (hH : H l = some (.lst xs))
    (e : s.heap.get? l = some { cls := .type "list", data := .seq its.toArray n }) (hf : f its.toArray = its'.toArray) (hv : Vals ys its') (hz : ys.length ≤ sizeLine) :
    Inv X pins σ (upd H l (.lst ys)) { s with heap := s.heap.update l (Obj.mapSeq f), toks := t' } := by
  have q := PySem.IsL.update e f
  rw [hf] at q
  refine I.write (x := l) (e := l) (by rw [hH]; exact trivial) (.inl rfl) (fun b' u hb hu => (Heap.get?_update_other s.heap (Obj.mapSeq f) (Ne.symm hb)).trans hu) ⟨_, q⟩ ?_
  exact ⟨hz, its', _, hv, q⟩
theorem Inv.lnew {its : List Value} {t' : Nat} (I : Inv X pins σ H s) (hv : Vals ys its) (hz : ys.length ≤ sizeLine) :
    Inv X pins σ (upd H s.heap.objs.size (.lst ys)) { s with heap := s.heap.push { cls := .type "list", data := .seq its.toArray }, toks := t' } :=
  I.laid (fun _ _ q => Heap.get?_push_of_some _ q) (Nat.le_refl _) ⟨hz, its, 0, hv, Heap.get?_push_size _ rfl⟩
theorem Inv.fresh (I : Inv X pins σ H s) : H s.heap.objs.size = none := I.hok.fresh (Nat.le_refl _)
theorem Inv.lstM (I : Inv X pins σ H s) (hH : H l = some (.lst xs)) : xs.length ≤ sizeLine ∧ ∃ (its : List Value) (n : Nat), Vals xs its ∧ xs.length = its.length ∧ s.heap.get? l = some { cls := .type "list", data := .seq its.toArray n } := by
  obtain ⟨z, its, n, r, e⟩ := I.hok l _ hH
  exact ⟨z, its, n, r, r.length, e⟩

end

section
variable {X : Cx}

/-! ### methods -/
noncomputable def rAppend : V → List V → Hp → VK → Prop := fun x vs H Q => ∃ l xs y, x = .ref l ∧ vs = [y] ∧ H l = some (.lst xs) ∧ xs.length < sizeLine ∧ Q .non (upd H l (.lst (xs ++ [y])))
theorem mt_append : MtM X "list.append" rAppend := by
  intro pins s σ H x vs v us Q I rx rv h
  obtain ⟨l, xs, y, rfl, rfl, hH, hz, q⟩ := h
  cases rx
  obtain ⟨u, rfl, ru⟩ := rv.one
  obtain ⟨z, its, n, r, hl, e⟩ := I.lstM hH
  refine call_meets F.slot_list_append ⟨_, e, rfl⟩ F.entry_list_append (F.args_list_append_2 _ _) (PySem.list_append l its.toArray n u (by rw [List.size_toArray]; omega)) ⟨e, ?_⟩
  refine ⟨.non, _, I.lset (its' := its ++ [u]) hH e (by simp) (r.append (.cons ru .nil)) ?_, rfl, q⟩
  rw [List.length_append, List.length_singleton]
  omega


noncomputable def rPop : V → List V → Hp → VK → Prop := fun x vs H Q => ∃ l xs y, x = .ref l ∧ vs = [] ∧ H l = some (.lst xs) ∧ xs[xs.length - 1]? = some y ∧ Q y (upd H l (.lst xs.dropLast))
theorem mt_pop : MtM X "list.pop" rPop := by
  intro pins s σ H x vs v us Q I rx rv h
  obtain ⟨l, xs, y, rfl, rfl, hH, hy, q⟩ := h
  cases rx
  have hus := rv.zero
  subst hus
  obtain ⟨z, its, n, r, hl, e⟩ := I.lstM hH
  obtain ⟨u, hu, ru⟩ := r.get hy
  have hy' : its.toArray[its.toArray.size - 1]? = some u := by
    show its.toArray[its.length - 1]? = some u
    rw [← Array.getElem?_toList, ← hl]
    exact hu
  refine call_meets F.slot_list_pop ⟨_, e, rfl⟩ F.entry_list_pop (F.args_list_pop_1 _) (MeetsSeq.list_pop_last l its.toArray n u hy' (by rw [List.size_toArray]; omega)) ⟨e, ?_⟩
  refine ⟨y, _, I.lset (its' := its.dropLast) hH e ?_ r.dropLast ?_, ru, q⟩
  · show its.toArray.eraseIdxIfInBounds (its.toArray.size - 1) = its.dropLast.toArray
    rw [List.size_toArray, List.eraseIdxIfInBounds_toArray, erase_last]
  · rw [List.length_dropLast]
    omega




/-! ### list + list, list += list, list * int -/
noncomputable def rCat : R2 := fun x y H Q => ∃ l b xs zs, x = .ref l ∧ y = .ref b ∧ H l = some (.lst xs) ∧ H b = some (.lst zs) ∧ xs.length + zs.length ≤ sizeLine ∧ ∀ p, H p = none → Q (.ref p) (upd H p (.lst (xs ++ zs)))
theorem op_cat : OpR X (binaryOp .Add) rCat := by
  intro pins s σ H x y v u Q I rx ry h
  obtain ⟨l, b, xs, zs, rfl, rfl, hH, hB, hz, q⟩ := h
  cases rx
  cases ry
  obtain ⟨z, its, n, r, hl, e⟩ := I.lstM hH
  obtain ⟨z2, its2, n2, r2, hl2, e2⟩ := I.lstM hB
  refine PySem.P.add_list e e2 ?_ (by rw [List.size_toArray, List.size_toArray]; omega)
  have ea : its.toArray ++ its2.toArray = (its ++ its2).toArray := by simp
  rw [ea]
  exact ⟨.ref _, _, I.lnew (t' := s.toks) (r.append r2) (by rw [List.length_append]; omega), rfl, q _ I.fresh⟩
theorem len_rep {α : Type} (xs : List α) (k : Nat) : (List.replicate k xs).flatten.length = k * xs.length := by
  induction k with
  | zero => simp
  | succ k ih => rw [List.replicate_succ, List.flatten_cons, List.length_append, ih, Nat.succ_mul, Nat.add_comm]

/-! ### del xs[i] -/
end

/-! ### xs[a:b] = ys -/
section
variable {prog : Program} {w : World} {A : Around} {E : Value → Shared → Prop} {s : Shared}
end

section
variable {X : Cx}
end
end L2

namespace L2
open PySem PySem.Spec PyProof.Rows

/-! ### lists of pairs as tables -/
section
variable {κ : Type} [DecidableEq κ]
noncomputable def valV (kvs : List (κ × V)) (k : κ) : Option V := (kvs.find? fun kv => decide (kv.1 = k)).map (·.2)
/-- in its place, or at the end -/
noncomputable def putK (kvs : List (κ × V)) (k : κ) (v : V) : List (κ × V) :=
  if (kvs.any fun kv => decide (kv.1 = k)) = true then kvs.map (fun kv => if kv.1 = k then (kv.1, v) else kv) else kvs ++ [(k, v)]

theorem valV_pos {p : κ × V} {r : List (κ × V)} {k : κ} (e : p.1 = k) : valV (p :: r) k = some p.2 := by simp [valV, List.find?_cons, e]
theorem valV_neg {p : κ × V} {r : List (κ × V)} {k : κ} (e : ¬ p.1 = k) : valV (p :: r) k = valV r k := by simp [valV, List.find?_cons, e]
theorem valV_any (k : κ) : ∀ kvs : List (κ × V), (kvs.any fun kv => decide (kv.1 = k)) = (valV kvs k).isSome
  | [] => rfl
  | p :: r => by
    rw [List.any_cons]
    by_cases e : p.1 = k
    · simp only [valV_pos e, decide_eq_true e, Bool.true_or, Option.isSome_some]
    · rw [valV_neg e, decide_eq_false e, Bool.false_or]; exact valV_any k r
theorem length_putK (kvs : List (κ × V)) (k : κ) (v : V) : (putK kvs k v).length ≤ kvs.length + 1 := by
  unfold putK
  split
  · rw [List.length_map]; omega
  · rw [List.length_append, List.length_cons, List.length_nil]; omega

theorem RelO.isSome_eq {o : Option V} {u : Option Value} (r : RelO o u) : o.isSome = u.isSome := by
  cases o with
  | none => cases u with
    | none => rfl
    | some _ => exact (show False from r).elim
  | some _ => cases u with
    | none => exact (show False from r).elim
    | some _ => rfl

/-- raw tables of the same keys -/
theorem KV.val {kvs : List (κ × V)} {vs : List (κ × Value)} (r : KV kvs vs) (k : κ) : RelO (valV kvs k) (valueAt vs k) := by
  unfold KV at r
  induction r with
  | nil => exact True.intro
  | @cons p q ps qs h t ih =>
    obtain ⟨h1, h2⟩ := h
    by_cases e : p.1 = k
    · have e' : q.1 = k := h1.symm.trans e
      have b : valueAt (q :: qs) k = some q.2 := by simp [valueAt, List.find?_cons, e']
      rw [valV_pos e, b]; exact h2
    · have e' : ¬ q.1 = k := fun z => e (h1.trans z)
      have b : valueAt (q :: qs) k = valueAt qs k := by simp [valueAt, List.find?_cons, e']
      rw [valV_neg e, b]; exact ih
theorem KV.any {kvs : List (κ × V)} {vs : List (κ × Value)} (r : KV kvs vs) (k : κ) : (kvs.any fun kv => decide (kv.1 = k)) = vs.any fun kv => decide (kv.1 = k) := by
  unfold KV at r
  induction r with
  | nil => rfl
  | cons h t ih => rw [List.any_cons, List.any_cons, ih, h.1]
theorem KV.repl {kvs : List (κ × V)} {vs : List (κ × Value)} (r : KV kvs vs) (k : κ) {y : V} {u : Value} (ry : RelV y u) :
    KV (kvs.map fun kv => if kv.1 = k then (kv.1, y) else kv) (vs.map fun kv => if kv.1 = k then (kv.1, u) else kv) := by
  unfold KV at r ⊢
  induction r with
  | nil => exact .nil
  | @cons p q ps qs h t ih =>
    rw [List.map_cons, List.map_cons]
    refine .cons ?_ ih
    obtain ⟨h1, h2⟩ := h
    by_cases e : p.1 = k
    · rw [if_pos e, if_pos (h1.symm.trans e)]; exact ⟨h1, ry⟩
    · rw [if_neg e, if_neg (fun z => e (h1.trans z))]; exact ⟨h1, h2⟩
theorem KV.put {kvs : List (κ × V)} {vs : List (κ × Value)} (r : KV kvs vs) (k : κ) {y : V} {u : Value} (ry : RelV y u) : KV (putK kvs k y) (stored vs k u) := by
  unfold putK stored
  rw [r.any k]
  by_cases e : (vs.any fun kv => decide (kv.1 = k)) = true
  · rw [if_pos e, if_pos e]; exact r.repl k ry
  · rw [if_neg e, if_neg e]; exact Paired.snoc r ⟨rfl, ry⟩
theorem KV.length {kvs : List (κ × V)} {vs : List (κ × Value)} (r : KV kvs vs) : kvs.length = vs.length := Paired.length r
end


/-! ### a tracked dict, its keys ints and texts or tuples of these -/
theorem kV_is {P : Program} {w : World} {k : Key} {u : Value} (r : RelV (kV k) u) : (mixKind P w).is k u = true := by
  cases k with
  | inl i => obtain ⟨t, e⟩ := (show ∃ t, u = Value.int i t from r); subst e; exact mixKind_int P w i t
  | inr x => obtain ⟨t, e⟩ := (show ∃ t, u = Value.str x t from r); subst e; exact mixKind_str P w x t
theorem items_are {P : Program} {w : World} : ∀ {ks : List Key} {us : List Value}, Vals (ks.map kV) us → ItemsAre (mixKind P w) ks us
  | [], _, r => by rw [List.map_nil] at r; cases r; exact .nil
  | k :: ks, _, r => by
    rw [List.map_cons] at r
    cases r with
    | cons h t => exact .cons (kV_is h) (items_are t)

/-- raw entries of a dict with tuple keys -/
noncomputable abbrev KT (H : Hp) : List (List Key × V) → List (List Key × Addr × Value) → Prop := Paired fun p q => p.1 = q.1 ∧ H q.2.1 = some (.tup (p.1.map kV)) ∧ RelV p.2 q.2.2
theorem KT.val {H : Hp} {kvs : List (List Key × V)} {xs : List (List Key × Addr × Value)} (r : KT H kvs xs) (k : List Key) : RelO (valV kvs k) ((atKey xs k).map (·.2)) := by
  induction r with
  | nil => exact True.intro
  | @cons p q ps qs h t ih =>
    obtain ⟨h1, _, h2⟩ := h
    by_cases e : p.1 = k
    · have e' : q.1 = k := h1.symm.trans e
      have b : atKey (q :: qs) k = some q.2 := by simp [atKey, List.find?_cons, e']
      rw [valV_pos e, b]; exact h2
    · have e' : ¬ q.1 = k := fun z => e (h1.trans z)
      have b : atKey (q :: qs) k = atKey qs k := by simp [atKey, List.find?_cons, e']
      rw [valV_neg e, b]; exact ih
theorem KT.repl {H : Hp} {kvs : List (List Key × V)} {xs : List (List Key × Addr × Value)} (r : KT H kvs xs) (k : List Key) {y : V} {u : Value} (ry : RelV y u) :
    KT H (kvs.map fun kv => if kv.1 = k then (kv.1, y) else kv) (xs.map (putAt k u)) := by
  induction r with
  | nil => exact .nil
  | @cons p q ps qs h t ih =>
    rw [List.map_cons, List.map_cons]
    refine .cons ?_ ih
    obtain ⟨h1, h2, h3⟩ := h
    unfold putAt
    by_cases e : p.1 = k
    · rw [if_pos e, if_pos (h1.symm.trans e)]; exact ⟨h1, h2, ry⟩
    · rw [if_neg e, if_neg (fun z => e (h1.trans z))]; exact ⟨h1, h2, h3⟩
theorem KT.put {H : Hp} {kvs : List (List Key × V)} {xs : List (List Key × Addr × Value)} (r : KT H kvs xs) (k : List Key) {b : Addr} {y : V} {u : Value} (hb : H b = some (.tup (k.map kV))) (ry : RelV y u) :
    KT H (putK kvs k y) (storedH xs k b u) := by
  have e : (kvs.any fun kv => decide (kv.1 = k)) = (atKey xs k).isSome := by
    rw [valV_any, (r.val k).isSome_eq, Option.isSome_map]
  unfold putK storedH
  rw [e]
  by_cases q : (atKey xs k).isSome = true
  · rw [if_pos q, if_pos q]; exact r.repl k ry
  · rw [if_neg q, if_neg q]; exact Paired.snoc r ⟨rfl, hb, ry⟩
theorem KT.keeps {H H' : Hp} {kvs : List (List Key × V)} {xs : List (List Key × Addr × Value)} (r : KT H kvs xs) (ht : ∀ b ys, H b = some (.tup ys) → H' b = some (.tup ys)) : KT H' kvs xs :=
  Paired.mapP r fun _ _ z => ⟨z.1, ht _ _ z.2.1, z.2.2⟩

section
variable {P : Program} {w : World} {H : Hp} {h : Heap} {a : Addr}
theorem rd_of {u : HO} (ok : HOk P w H h) (e : Rd H a u) : ObjOk P w H h a u := e.ok ok
theorem dk_rd {kvs : List (Key × V)} (ok : HOk P w H h) (e : Rd H a (.dK kvs)) : kvs.length ≤ sizeLine ∧ (a == sysModules) = false ∧ ∃ vs, KV kvs vs ∧ h.DictOf (mixKind P w) a vs :=
  show ObjOk P w H h a (.dK kvs) from rd_of ok e
theorem dk_of {kvs : List (Key × V)} (ok : HOk P w H h) (e : H a = some (.dK kvs)) : kvs.length ≤ sizeLine ∧ (a == sysModules) = false ∧ ∃ vs, KV kvs vs ∧ h.DictOf (mixKind P w) a vs := dk_rd ok (.inl e)
/-- a tracked tuple of ints and texts is a key -/
theorem key_of {ks : List Key} (ok : HOk P w H h) (e : H a = some (.tup (ks.map kV))) : (tupleKind (mixKind P w)).is h ks a := by
  obtain ⟨_, its, r, o, h1, h2, n, h3⟩ := (show ObjOk P w H h a (.tup (ks.map kV)) from ok a _ e)
  exact ⟨o, its.toArray, n, h1, h2, h3, by simpa using items_are r⟩
theorem dt_rd {kvs : List (List Key × V)} (ok : HOk P w H h) (e : Rd H a (.dT kvs)) : kvs.length ≤ sizeLine ∧ (a == sysModules) = false ∧
    ∃ xs, KT H kvs xs ∧ h.DictOfH (tupleKind (mixKind P w)) a xs := by
  obtain ⟨z, y, xs, r, o, es, ep, h1, h2, h3, h4, h5⟩ := (show ObjOk P w H h a (.dT kvs) from rd_of ok e)
  refine ⟨z, y, xs, r, o, es, ep, h1, h2, h3, h4, fun x hx => ?_, h5⟩
  have all : ∀ {l : List (List Key × V)} {m : List (List Key × Addr × Value)}, KT H l m → ∀ x ∈ m, (tupleKind (mixKind P w)).is h x.1 x.2.1 := by
    intro l m q
    induction q with
    | nil => intro x hx; exact nomatch hx
    | @cons p q ps qs hq t ih =>
      intro x hx
      rcases List.mem_cons.mp hx with e | hx
      · subst e
        exact key_of ok (by rw [← hq.1]; exact hq.2.1)
      · exact ih x hx
  exact all r x hx
theorem dt_of {kvs : List (List Key × V)} (ok : HOk P w H h) (e : H a = some (.dT kvs)) : kvs.length ≤ sizeLine ∧ (a == sysModules) = false ∧
    ∃ xs, KT H kvs xs ∧ h.DictOfH (tupleKind (mixKind P w)) a xs := dt_rd ok (.inl e)
end

/-- what the dict at a holds at the key y -/
noncomputable def DGet (H : Hp) (a : Addr) (y : V) (r : Option V) : Prop :=
  (∃ kvs k, Rd H a (.dK kvs) ∧ y = kV k ∧ r = valV kvs k) ∨ ∃ kvs k b, Rd H a (.dT kvs) ∧ y = .ref b ∧ H b = some (.tup (k.map kV)) ∧ r = valV kvs k
/-- the heap behind a[y] = v -/
noncomputable def DPut (H : Hp) (a : Addr) (y v : V) (H' : Hp) : Prop :=
  (∃ kvs k, H a = some (.dK kvs) ∧ y = kV k ∧ kvs.length < sizeLine ∧ H' = upd H a (.dK (putK kvs k v))) ∨
  ∃ kvs k b, H a = some (.dT kvs) ∧ y = .ref b ∧ H b = some (.tup (k.map kV)) ∧ kvs.length < sizeLine ∧ H' = upd H a (.dT (putK kvs k v))
theorem DGet.k {H : Hp} {a : Addr} {kvs : List (Key × V)} {k : Key} (e : H a = some (.dK kvs)) : DGet H a (kV k) (valV kvs k) := .inl ⟨kvs, k, .inl e, rfl, rfl⟩


section
variable {X : Cx} {pins : List (Addr × Obj)} {σ : St} {H : Hp} {s : Shared} {a : Addr} {y v : V} {u r : Value} {o : Option V} {A : Around} {E : Value → Shared → Prop}

theorem Inv.big (I : Inv X pins σ H s) : sysModules < s.heap.objs.size := by
  have h : mainGlobals < s.heap.objs.size := (I.mod.glob.keeps I.bk).lt
  exact Nat.lt_trans (by decide) h

theorem d_notIn {Q : Value → Shared → Prop} (hu : A.units + 1 < cLine) (I : Inv X pins σ H s) (g : DGet H a y o) (ry : RelV y u) (h : ∀ s', Inv X pins σ H s' → Q (.bool (!o.isSome)) s') :
    wpAny (model X.prog X.w) A (compareOp .NotIn u (.ref a)) Q E s := by
  rcases g with ⟨kvs, k, e, ey, l⟩ | ⟨kvs, k, b, e, ey, eb, l⟩
  · subst ey
    obtain ⟨z, hd, vs, rel, dd⟩ := dk_rd I.hok e
    refine wpAny_notIn_of (kV_is ry) hd dd.mapOf ?_
    rw [← (rel.val k).isSome_eq, ← l]
    exact h _ (I.tok _)
  · subst ey
    cases (show u = Value.ref b from ry)
    obtain ⟨z, hd, xs, rel, dd⟩ := dt_rd I.hok e
    refine wpAny_notIn_heap (tupleKind_room_in1 hu) (key_of I.hok eb) hd dd ?_
    have q := (rel.val k).isSome_eq
    rw [Option.isSome_map] at q
    rw [← q, ← l]
    exact h _ (I.tok _)
/-- a dict's object is replaced -/
theorem d_write {h' : Heap} {t' : Nat} {ob : HO} (I : Inv X pins σ H s) (mu : Mut (H a)) (hs : Heap.SameBut a s.heap h') (he : ∃ q, h'.get? a = some q) (new : ObjOk X.prog X.w (upd H a ob) h' a ob) :
    Inv X pins σ (upd H a ob) { s with heap := h', toks := t' } :=
  I.write (x := a) (e := a) mu (.inl rfl) (fun b q hb z => (hs.2 b hb).trans z) he new
theorem dk_new {P : Program} {w : World} {H' : Hp} {h' : Heap} {kvs : List (Key × V)} {vs : List (Key × Value)} (z : kvs.length ≤ sizeLine) (hd : (a == sysModules) = false) (rel : KV kvs vs) (dd : h'.DictOf (mixKind P w) a vs) :
    ObjOk P w H' h' a (.dK kvs) := ⟨z, hd, vs, rel, dd⟩
/-- d[y] = v -/
theorem d_setItem {H' : Hp} {Q : Unit → Shared → Prop} (hu : A.units + 1 < cLine) (I : Inv X pins σ H s) (g : DPut H a y v H') (ry : RelV y u) (rv : RelV v r) (h : ∀ s', Inv X pins σ H' s' → Q () s') :
    wpAny (model X.prog X.w) A (setItem (.ref a) u r) Q E s := by
  rcases g with ⟨kvs, k, e, ey, l, eH⟩ | ⟨kvs, k, b, e, ey, eb, l, eH⟩
  · subst ey eH
    obtain ⟨z, hd, vs, rel, dd⟩ := dk_of I.hok e
    have hz : vs.length ≤ sizeLine := by rw [← rel.length]; exact z
    have hl : (putK kvs k v).length ≤ sizeLine := by have := length_putK kvs k v; omega
    refine wpAny_setItem_pairs (hsz := hz) (kV_is ry) dd fun h' dd' hs => h _ ?_
    have he : ∃ q, h'.get? a = some q := let ⟨q, _, _, hq, _⟩ := dd'; ⟨q, hq⟩
    exact d_write I (by rw [e]; exact True.intro) hs he (dk_new hl hd (rel.put k rv) dd')
  · subst ey eH
    cases (show u = Value.ref b from ry)
    obtain ⟨z, hd, xs, rel, dd⟩ := dt_of I.hok e
    have hz : xs.length ≤ sizeLine := by rw [← Paired.length rel]; exact z
    have hl : (putK kvs k v).length ≤ sizeLine := by have := length_putK kvs k v; omega
    refine wpAny_setItem_heap (hsz := hz) (tupleKind_room_in1 hu) (key_of I.hok eb) dd fun h' dd' hs => h _ ?_
    obtain ⟨q, es, ep, hq, h2, h3, h4, _, h5⟩ := dd'
    refine d_write I (by rw [e]; exact True.intro) hs ⟨q, hq⟩ ⟨hl, hd, _, (rel.put k eb rv).keeps fun c ys ec => ?_, q, es, ep, hq, h2, h3, h4, h5⟩
    rw [upd_ne (ne_of ec e (fun z => nomatch z))]
    exact ec
end

section
variable {X : Cx} {pins : List (Addr × Obj)} {σ : St} {H : Hp} {s : Shared} {a : Addr} {kvs : List (Key × V)} {k : Key} {u : Value} {A : Around} {E : Value → Shared → Prop}
end


/-! ### readings and rules -/
/-- the element of a subscription, not a slice -/
noncomputable def NoSl (i : Expr) : Prop := ∀ ov iv, subscripted i false ov iv = operate [ov, iv] (getItem ov iv)
theorem subD_of {prog : Program} {w : World} {A : Around} {E : Value → Shared → Prop} {s : Shared} {env : Env} {value slice : Expr} {pos : Pos} {T id : String} {Q : Value → Shared → Prop}
    (hl : typeLookup (.type T) "__getitem__" = pure (some (.builtin id))) (hs : NoSl slice)
    (h : wpAny (model prog w) A (eval value env) (fun o s₁ => wpAny (model prog w) A (eval slice env) (fun i s₂ => s₂.TypeIs o T ∧ wpAny (model prog w) A (getItem o i) Q E s₂) E s₁) E s) :
    wpAny (model prog w) A (eval (.Subscript value slice pos) env) Q E s := by
  refine Subscript_ (wpAny_mono h (fun o s₁ h₁ => wpAny_mono h₁ (fun i s₂ h₂ => ?_) fun _ _ x => x) fun _ _ x => x)
  obtain ⟨hT, h₂⟩ := h₂
  unfold subscriptTail
  refine wpAny_bind ?_
  rw [getitemInPython_of_ne hT.not_modules]
  refine wpAny_bind (wpAny_specialOf hT hl ?_)
  have fin : wpAny (model prog w) A (subscripted slice false o i) (fun r s₃ => wpAny (model prog w) A (letTemporaryGo value o r >>= fun _ => pure r) Q E s₃) E s₂ := by
    rw [hs o i]
    exact wpAny_operating (wpAny_mono h₂ (fun r s₃ h₃ => wpAny_bind (wpAny_letTemporaryGo (wpAny_pure h₃))) fun _ _ x => x)
  first
    | exact wpAny_pure (wpAny_bind fin)
    | exact wpAny_bind (wpAny_pure (wpAny_bind fin))
    | exact wpAny_bind fin


noncomputable def tDNotIn (ty td : TE) : TE := fun σ H Q => ty σ H fun y H1 => td σ H1 fun x H2 => ∃ a o, x = .ref a ∧ DGet H2 a y o ∧ Q (.bl (!o.isSome)) H2
/-- d[y] = v -/
noncomputable def sDPut (td ty tv : TE) : TS := fun D σ H => tv σ H fun v H1 => td σ H1 fun x H2 => ty σ H2 fun y H3 => ∃ a H4, x = .ref a ∧ DPut H3 a y v H4 ∧ D.nx σ H4

section
variable {X : Cx} {o i e value : Expr} {pos pos' tpos : Pos} {td ty tv : TE}
theorem pc_dnotin (hu : X.A.units + 1 < cLine) (hi : PE X i ty) (ho : PE X o td) : PC X .NotIn i o (tDNotIn ty td) := by
  intro pins s σ H Q I h
  refine thn (hi pins s σ H _ I h) fun iv s1 ⟨y, H1, I1, ry, q1⟩ => thn (ho pins s1 σ H1 _ I1 q1) fun u s2 ⟨x, H2, I2, rx, a, ov, ex, g, q2⟩ => ?_
  subst ex
  obtain rfl : u = Value.ref a := rx
  exact d_notIn hu I2 g ry fun s3 I3 => ⟨.bl (!ov.isSome), H2, I3, rfl, q2⟩
theorem ps_dput (hu : X.A.units + 1 < cLine) (ho : PE X o td) (hi : PE X i ty) (hv : PE X value tv) (hs : swapsWith value (some (.Subscript o i pos')) pos.line X.env = pure false) :
    PS X (.Assign [.Subscript o i pos'] value pos) (sDPut td ty tv) := by
  intro pins s σ H D I h
  refine wpAny_Assign_Subscript (thn (hv pins s σ H _ I h) fun r s1 ⟨v, H1, I1, rv, q1⟩ => thn (ho pins s1 σ H1 _ I1 q1) fun u s2 ⟨x, H2, I2, rx, q2⟩ => thn (hi pins s2 σ H2 _ I2 q2) fun iv s3 ⟨y, H3, I3, ry, a, H4, ex, g, q3⟩ => ?_) hs
  subst ex
  obtain rfl : u = Value.ref a := rx
  exact d_setItem hu I3 g ry rv fun s4 I4 => ⟨σ, H4, I4, q3⟩
end


/-! ### displays -/
theorem dk_empty {P : Program} {w : World} {H : Hp} (h : Heap) (hb : sysModules < h.objs.size) : ObjOk P w H (h.push { cls := .type "dict", data := .dict #[] }) h.objs.size (.dK []) :=
  ⟨Nat.zero_le _, beq_eq_false_iff_ne.mpr (Ne.symm (Nat.ne_of_lt hb)), [], .nil, Heap.DictOf.new h⟩
/-- {}, to be a dict of the kind that is wanted -/
noncomputable def tDNewK : TE := fun _ H Q => ∀ p, H p = none → Q (.ref p) (upd H p (.dK []))
section
variable {X : Cx} {pos : Pos}
theorem pe_dnewK : PE X (.Dict [] [] pos) tDNewK := fun pins s σ H Q I h =>
  wpAny_Dict_empty ⟨.ref s.heap.objs.size, _, I.laid (a := s.heap.objs.size) (o := .dK []) (t' := s.toks) (fun _ _ q => Heap.get?_push_of_some _ q) (Nat.le_refl _) (dk_empty s.heap I.big), rfl, h _ (I.hok.fresh (Nat.le_refl _))⟩
end




/-! ### methods -/


section
variable {X : Cx} {pins : List (Addr × Obj)} {σ : St} {H : Hp} {s : Shared} {a : Addr} {y d : V} {u r : Value} {o : Option V} {A : Around} {E : Value → Shared → Prop}
end

section
variable {X : Cx} {o e f : Expr} {apos cpos : Pos} {td ty tx : TE}
end

/-! ### dict(d): a copy -/
section
variable {X : Cx} {pins : List (Addr × Obj)} {σ : St} {H : Hp} {s : Shared} {a : Addr} {kvs : List (Key × V)} {A : Around} {E : Value → Shared → Prop}
end


section
variable {X : Cx} {pins : List (Addr × Obj)} {σ : St} {H : Hp} {s : Shared} {a : Addr} {y : V} {u : Value} {A : Around} {E : Value → Shared → Prop}
end
end L2

namespace Att
open PySem PySem.W PySem.Calls PyProof.Rows

/-! ### the script -/
theorem ints_of_wellAll {P : Params} {h : Heap} : ∀ (ns : List Int) (vs : List Value), WellAll P h vs (ns.map WData.int) → IntsAre vs ns := by
  intro ns
  induction ns with
  | nil =>
    intro vs w
    rw [List.map_nil] at w
    cases w
    exact .nil
  | cons n ns ih =>
    intro vs w
    rw [List.map_cons] at w
    cases w with
    | cons a b =>
      cases a
      exact .cons _ _ (ih _ b)

theorem script_of {l : OpenLaw} {n : Nat} (hn : l.most = some n) {P : Params} {h : Heap} {args : List WData} {vals : List Value}
    (hpre : l.row.toRowW.claim.pre args = true) (hwl : WellAll P h vals args) :
    ∃ a vs ns, vals = [Value.ref a] ∧ args = [WData.list (ns.map WData.int)] ∧ h.get? a = some { cls := .type "list", data := .seq vs.toArray } ∧ IntsAre vs ns ∧ ns.length ≤ n := by
  have hsh : WShape.hasAll [] args [.list .int] = true := (pre_splitW hpre).1
  have hc : l.pre.holds [] { args := args } = true := (pre_splitW hpre).2
  obtain ⟨d, r, rfl, h1, h2⟩ := hasAllW_cons hsh
  obtain rfl := hasAllW_nil h2
  obtain ⟨xs, rfl, h3⟩ := hasW_list h1
  obtain ⟨ns, rfl⟩ := items_int h3
  have hlen : ns.length ≤ n := by
    unfold OpenLaw.pre at hc
    have h4 : (WTm.not (.lt (.lit (.int (n : Int))) (.len (.arg 0)))).holds [] { args := [.list (ns.map .int)] } = true := by
      have h4 := (holds_andW hc).1
      rw [hn] at h4
      exact h4
    have h5 := condW_of h4 (w_not (w_lt w_lit (w_len_list (w_arg rfl))))
    rw [List.length_map] at h5
    refine Nat.le_of_not_lt fun q => ?_
    have q' : (n : Int) < ((ns.length : Nat) : Int) := by omega
    first
      | (rw [decide_eq_true q'] at h5; exact absurd h5 (by decide))
      | (simp at h5; omega)
  cases hwl with
  | cons w1 w2 =>
    cases w2
    cases w1 with
    | list ho hall => exact ⟨_, _, ns, rfl, rfl, ho, ints_of_wellAll ns _ hall, hlen⟩

theorem post_true (l : OpenLaw) (args : List WData) : l.row.toRowW.claim.post args (.bool true) args = true :=
  postW_of (r := l.row.toRowW) (X := (true == true))
    (show WShape.has [] (.bool true) .bool = true by first | rfl | decide | simp [WShape.has, WShape.arms, WShape.armsAll])
    (show (WTm.eq .res (.lit (.bool true))).value [] { args := args, res := some (.bool true), after := args } = some (.bool (true == true)) from w_eq_bool (w_res rfl) w_lit) rfl

/-! ### the attachment: holds_open's last premise (the goal 'hc' behind k_head) from a wpAny of the law's body -/

/-- the same from a codeAny of the CALL (for a layer whose function contracts speak of calls) -/
theorem attach_call {l : OpenLaw} {n : Nat} {q : Program} {loose : List Str} {XP : (Str → Option Value) → Heap → Prop} {YP : World → Heap → Prop} {d : DefRec}
    (hn : l.most = some n) (hdf : d.params.defaults = [])
    (call : ∀ (w : World) (s₀ s₁ : Shared) (mg mb : Str → Option Value) (fa : Addr) (o : Obj) (pm cd doc : Value) (a : Addr) (vs : List Value) (ns : List Int),
      Ground q loose [] XP w s₀ mg mb s₁.heap → YP w s₁.heap →
      s₁.heap.get? fa = some o → o.data = .func (docDef d.name d.params d.body d.scope pm cd doc) → s₁.heap.CodeRec cd d.name → mg d.name = some (.ref fa) →
      s₁.heap.get? a = some { cls := .type "list", data := .seq vs.toArray } → IntsAre vs ns → ns.length ≤ n → s₁.gens = #[] →
      codeAny (model l.prog w) callerA (.call (.ref fa) ⟨[.ref a], []⟩) (fun r s' => r = .ok (.ret (.bool true)) ∧ OldK s₁.heap s'.heap ∧ s'.os = s₁.os ∧ AllBare s'.gens) s₁) :
    WalkO q loose XP YP l.row.toRowW d [] (fun f vs => PySem.call f vs) := by
  intro w s₀ s₁ mg mb G Y fa o pm cd doc dV kV ho hd hcd hD hmg hg args vals as hpre hlay hrd hwl hlo
  obtain rfl : dV = .none := Dflts.none hD hdf
  obtain rfl : kV = .none := Dflts.noKw hD
  obtain ⟨a, vs, ns, rfl, rfl, hobj, hints, hlen⟩ := script_of hn hpre hwl
  refine enter_call (codeAny_mono (call w s₀ s₁ mg mb fa o pm cd doc a vs ns G Y ho (fd_plain hd) hcd hmg hobj hints hlen hg) fun r s' hq => ?_)
  obtain ⟨rfl, h2, h3, h4⟩ := hq
  exact ⟨.inl ⟨.bool true, .bool true, [], rfl, fun _ => rfl, .bool true, post_true l _, fun _ => ⟨List.Pairwise.nil, fun _ hm => (nomatch hm)⟩⟩, h2, h3, h4⟩


/-! ### rules over ANY heap (no ledger) from facts about the written part K: the library's own take a ledger (News) for what they write -/
section
variable {prog : Program} {w : World} {A : Around} {E : Value → Shared → Prop} {s : Shared} {K : Frag}





/-! the whole heap as the ledger: makes every rule that writes through a ledger a rule over any heap -/

end
end Att

namespace L2
open PySem PySem.Spec PyProof.Rows

theorem vals_ints : ∀ {vs : List Value} {ns : List Int}, IntsAre vs ns → Vals (ns.map V.int) vs
  | _, _, .nil => .nil
  | _, _, .cons n t h => .cons ⟨t, rfl⟩ (vals_ints h)

/-- nothing is tracked but the script, known to the object (or it is an object of the module) -/
noncomputable def Only (H : Hp) : Prop := ∀ b, H b = none ∨ ∃ o xs, H b = some (.frz o (.lst xs))

/-- THE HEAD: the law's promise, at the heap behind the top. F, the promise of the law's def, may use that base is part of the heap (so K.In base, base.Ns mainGlobals mg stand in Mod) -/
theorem law_call {P : Program} {w : World} {K : PySem.W.Frag} {mg mb : Str → Option Value} {CX : CXT} {k : Nat} {fa a : Addr} {fd : FuncData} {x : Str} {sp : Sp} {s₁ : Shared} {vs : List Value} {ns : List Int}
    (KX : K.In s₁.heap) (hns : s₁.heap.Ns mainGlobals mg) (hb : s₁.heap.Ns builtinsNs mb) (hbb : ∀ x : Str, x ≠ "__name__" → mb x = bootBuiltins x) (hlim : s₁.heap.NoLimit) (hg : s₁.gens = #[])
    (ha : s₁.heap.get? a = some { cls := .type "list", data := .seq vs.toArray }) (hi : IntsAre vs ns) (hl : ns.length ≤ sizeLine) (hr : Room k callerA)
    (F : ∀ base : Heap, K.In base → base.Ns mainGlobals mg → FnOk P w K mg base CX k fa fd [x] sp) (hbind : ∀ (s : Shared) (u : Value), BindsTo s fd ⟨[u], []⟩ [(x, u)])
    (hsp : ∀ H : Hp, Only H → SqL K H a (ns.map V.int) → sp [.ref a] H (fun v _ => v = .bl true) fun _ _ _ => False)
    (hCX : ∀ H e s', CX [] H s₁ (fun _ _ _ => False) e s' → False) :
    codeAny (model P w) callerA (.call (.ref fa) ⟨[.ref a], []⟩) (fun r s' => r = .ok (.ret (.bool true)) ∧ OldK s₁.heap s'.heap ∧ s'.os = s₁.os ∧ AllBare s'.gens) s₁ := by
  have rv := vals_ints hi
  have lenV := hi.length
  -- from an abstract heap in which nothing but the script may be tracked
  have core : ∀ H : Hp, Only H → SqL K H a (ns.map V.int) → HOk P w H s₁.heap → (∀ b, H b ≠ none → b = a) → (H a ≠ none → K.lookup a = none) →
      codeAny (model P w) callerA (.call (.ref fa) ⟨[.ref a], []⟩) (fun r s' => r = .ok (.ret (.bool true)) ∧ OldK s₁.heap s'.heap ∧ s'.os = s₁.os ∧ AllBare s'.gens) s₁ := by
    intro H hO hS hok hA hK
    have base_of : ∀ {b : Addr} {o : Obj}, s₁.heap.get? b = some o → H b = none → (hidT s₁.heap H).get? b = some o := fun e n => hidT_get e n
    have noA : ∀ {b : Addr} {o : Obj} {es : Array DictEntry} {ep : Nat}, s₁.heap.get? b = some o → o.data = .dict es ep → H b = none := fun {b o es ep} e d => by
      cases q : H b with
      | none => rfl
      | some u =>
        have e' : b = a := hA b (by rw [q]; simp)
        subst e'
        rw [ha] at e; cases e
        have d' : Data.seq vs.toArray _ = Data.dict es ep := d
        cases d'
    have nsK : ∀ {b : Addr} {m : Str → Option Value}, s₁.heap.Ns b m → (hidT s₁.heap H).Ns b m := fun {b m} ⟨o, es, ep, e, d, r⟩ => ⟨o, es, ep, base_of e (noA e d), d, r⟩
    have hKb : K.In (hidT s₁.heap H) := fun b o e => base_of (KX b o e) (by
      cases q : H b with
      | none => rfl
      | some u =>
        have e' : b = a := hA b (by rw [q]; simp)
        subst e'
        rw [hK (by rw [q]; simp)] at e; cases e)
    have hM : Mod K mg (hidT s₁.heap H) := ⟨hKb, nsK hns, ⟨mb, nsK hb, hbb⟩, let ⟨mc, h1, h2⟩ := hlim; ⟨mc, nsK h1, h2⟩⟩
    have e0 : Env0 P w K mg (hidT s₁.heap H) callerA [] s₁ H := ⟨rfl, hM, fun b o e => of_hidT e, Nat.le_of_eq (hidT_size _ _), trivial, fun b hb => absurd (show b ∈ ([] : List Addr) from hb) (by simp), hok, .of_eq hg⟩
    refine codeAny_mono ((F _ hKb (nsK hns)).run callerA [] s₁ H ⟨[.ref a], []⟩ [.ref a] [.ref a] _ _ hr e0 (hbind s₁ (.ref a)) (.cons rfl .nil) (hsp H hO hS)) fun r s' h => ?_
    cases r with
    | error e => exact (hCX H e s' h).elim
    | ok fl =>
      cases fl with
      | next => exact False.elim h
      | brk => exact False.elim h
      | cont => exact False.elim h
      | ret u =>
        obtain ⟨v, H', os, bare, un, hok', r', q⟩ := h
        have q' : v = .bl true := q
        subst q'
        obtain rfl : u = Value.bool true := r'
        refine ⟨rfl, OldK.of_keep fun b o e => ?_, os, bare⟩
        cases q : H b with
        | none => exact un.keep b o e q (by intro z; exact absurd (show b ∈ ([] : List Addr) from z) (by simp)) (by simp)
        | some u =>
          rcases hO b with z | ⟨ob, xs, z⟩
          · rw [q] at z; cases z
          · have z2 := un.frzs b ob _ z
            obtain ⟨e1, _⟩ := hok b _ z
            obtain ⟨e2, _⟩ := hok' b _ z2
            rw [e] at e1; cases e1
            exact e2
  cases hk : K.lookup a with
  | some o =>
    -- the script is one of the module's own objects
    have e := KX a o hk
    rw [ha] at e
    cases e
    refine core (fun _ => none) (fun _ => .inl rfl) (.inr ⟨_, vs.toArray, _, hk, rfl, rfl, rfl, by rw [List.size_toArray, lenV]; exact hl, by simpa using rv⟩) (fun b u z => by have z' : (none : Option HO) = some u := z; cases z') (fun b z => absurd rfl z) fun z => absurd rfl z
  | none =>
    refine core (fun b => if b = a then some (.frz { cls := .type "list", data := .seq vs.toArray } (.lst (ns.map V.int))) else none) (fun b => ?_) (.inl (.inr ⟨{ cls := .type "list", data := .seq vs.toArray }, if_pos rfl⟩)) (fun b u z => ?_) (fun b z => ?_) fun _ => hk
    · by_cases hb : b = a
      · exact .inr ⟨_, _, if_pos hb⟩
      · exact .inl (if_neg hb)
    · by_cases hb : b = a
      · have z' := (if_pos hb).symm.trans z
        cases z'
        subst hb
        exact ⟨ha, by rw [List.length_map]; exact hl, vs, _, rv, ha⟩
      · have z' := (if_neg hb).symm.trans z
        cases z'
    · by_cases hb : b = a
      · exact hb
      · exact absurd (if_neg hb) z
end L2

namespace L2
open PySem PySem.Spec PyProof.Rows


/-- the goal that k_head leaves (case hc), from the law's promise. F gives the function object fd (K's own) once, then the promise over every base -/
theorem walk_of {l : PySem.W.OpenLaw} {n k : Nat} {q : Program} {loose : List Str} {XP : (Str → Option Value) → Heap → Prop} {YP : World → Heap → Prop} {d : DefRec} {K : Params → PySem.W.Frag} {CX : World → CXT} {sp : World → Sp} {x : Str}
    (hn : l.most = some n) (hn2 : n ≤ sizeLine) (hdf : d.params.defaults = []) (hr : Room k callerA)
    (hY : ∀ (w : World) (h : Heap), YP w h → (K w.params).In h)
    (F : ∀ (w : World) (mg : Str → Option Value) (fa : Addr) (h : Heap), (K w.params).In h → h.Ns mainGlobals mg → mg d.name = some (.ref fa) →
      ∃ fd : FuncData, (∀ (s : Shared) (u : Value), BindsTo s fd ⟨[u], []⟩ [(x, u)]) ∧
        ∀ base : Heap, (K w.params).In base → base.Ns mainGlobals mg → FnOk l.prog w (K w.params) mg base (CX w) k fa fd [x] (sp w))
    (hsp : ∀ (w : World) (H : Hp) (a : Addr) (ns : List Int), ns.length ≤ n → Only H → SqL (K w.params) H a (ns.map V.int) → sp w [.ref a] H (fun v _ => v = .bl true) fun _ _ _ => False)
    (hCX : ∀ (w : World) (H : Hp) (s : Shared) (e : Value) (s' : Shared), CX w [] H s (fun _ _ _ => False) e s' → False) :
    PySem.W.WalkO q loose XP YP l.row.toRowW d [] (fun f vs => PySem.call f vs) := by
  refine Att.attach_call hn hdf fun w s₀ s₁ mg mb fa o pm cd doc a vs ns G Y ho hd hcd hmg hobj hints hlen hg => ?_
  have KX := hY w _ Y
  obtain ⟨fd, hb, hF⟩ := F w mg fa _ KX G.T.g hmg
  exact law_call KX G.T.g G.T.b G.T.builtins G.T.nolimit hg hobj hints (Nat.le_trans hlen hn2) hr hF hb (fun H hO hS => hsp w H a ns hlen hO hS) fun H e s' => hCX w H s₁ e s'
end L2

/- THE LAST THEOREM (shape; LID, My.* are yours):
   My.Adr: a structure of the addresses that your layer names (classes, functions); My.Txt K t: a structure (Prop) of the equations over K;
   My.txt_mk : {K} {implicit addresses ..} (e1 : nsIn K mainGlobals "law" = some (some (.ref f))) (e2 : K.lookup f = some ⟨oc, od, .func (fnOf "law" "law" params body scope dV kV doc pm an cdv ct), sl⟩) (e3 : codeIn K cdv "law" = true) .. : ∃ t, My.Txt K t

theorem PySem.Challenge.cw_LID_holds : PySem.Challenge.rw_LID.Holds := by
  w_on; o_law; k_head; (case hw => w_witness2)
  k_fill
  refine L2.walk_of (l := PySem.Challenge.rw_LID) (n := 63) (k := 40) (x := "script") (CX := fun w => ..) (sp := fun _ => My.sp_law) rfl (by decide) rfl ⟨rfl, by decide, by decide⟩ (fun w h Y => PySem.W.kIn_of Y) ?F ?S ?C
  case F =>
    intro w mg fa h KX G hmg
    have T : ∃ t, My.Txt (L2.KOf KX) t := by
      dsimp only [L2.KOf]                          -- K must stand as «<heap const> w.params» for k_is
      refine' My.txt_mk ?e1 ?e2 ?e3 ..
      (case e1 => PySem.W.k_is)                    -- in the order: a name -> its address -> its object -> its parts
      (case e2 => PySem.W.k_is)
      ..
    obtain ⟨t, T⟩ := T
    have e0 := hmg.symm.trans (PySem.W.mg_of KX G T.law)
    cases e0                                       -- fa is the law's own address
    exact ⟨_, fun s u => .of_eq rfl, fun base kb nb => My.law_fn T kb nb⟩     -- if «.of_eq rfl» comes too early: refine' ⟨_, ?b, fun base kb nb => My.law_fn T kb nb⟩; exact fun s u => .of_eq rfl
  case S => exact fun w H a ns hl hO hS => ..
  case C => exact ..
(the tactic k_is has no namespace: write k_is) -/

/-! SHORT WORDS over the layer: a def of the text, its body, what a loop and a test want. -/
namespace L2
open PySem PySem.Spec PyProof.Rows

/-! ### the text by places -/
noncomputable def defArgs (s : Stmt) : Arguments := match s with
  | .FunctionDef _ a _ _ _ _ _ _ _ _ => a
  | _ => { posonlyargs := [], args := [], vararg := none, kwonlyargs := [], kw_defaults := [], kwarg := none, defaults := [] }
noncomputable def defBody (s : Stmt) : List Stmt := match s with
  | .FunctionDef _ _ b _ _ _ _ _ _ _ => b
  | _ => []
noncomputable def defScope (s : Stmt) : Scope := match s with
  | .FunctionDef _ _ _ _ _ _ sc _ _ _ => sc
  | _ => { kind := .function, names := [], isGenerator := false, isCoroutine := false }

/-! ### no exception leaves a def -/
noncomputable abbrev CX0 : CXT := fun _ _ _ _ _ _ => False
noncomputable abbrev E0 : XK := fun _ _ _ => False
theorem pass0 {X : Cx} : Passes CX0 X E0 := fun _ _ _ _ _ _ _ h => h.elim

/-! ### a def (or method) of the text as it stands behind the top -/
structure Fun (K : PySem.W.Frag) (x qual : Str) (st : Stmt) (f : Addr) (fd : FuncData) : Prop where
  ex : ∃ (oc : Value) (od : Option Addr) (kV doc pm : Value) (an : Option Addr) (cdv ct : Value) (osl : Array (Option Value)),
    fd = PySem.W.fnOf x qual (defArgs st) (defBody st) (defScope st) .none kV doc pm an cdv ct ∧ K.lookup f = some ⟨oc, od, .func fd, osl⟩ ∧ PySem.W.codeIn K cdv qual = true
  kp : PySem.W.keepIn K (.ref f) = true
section
variable {P : Program} {w : World} {K : PySem.W.Frag} {mg : Str → Option Value} {base : Heap}
/-- THE RULE for a def: its body as a term of rules, and the reading of that term -/
theorem Fun.ok {x qual : Str} {st : Stmt} {f : Addr} {fd : FuncData} {N ps : List Str} {k : Nat} {sp : Sp} (F : Fun K x qual st f fd) (S : FnScope N ps (defScope st)) (len : ∀ vs H Q E, sp vs H Q E → vs.length = ps.length)
    (hbody : ∀ (cdv : Value) (A : Around) (outer : List Env) (s : Shared) (H : Hp) (vs : List V) (Q : VK) (E : XK), Room k (A.deeper (envOfC qual (defScope st) s.heap.objs.size f cdv)) → sp vs H Q E →
      ∃ t, PSs (cxOf CX0 P w K mg base N qual (defScope st) f cdv A outer s H E).nox (defBody st) t ∧ t { nx := fun _ H' => Q .non H', rt := Q } (start N vs) H) : FnOk P w K mg base CX0 (k + 1) f fd ps sp := by
  obtain ⟨oc, od, kV, doc, pm, an, cdv, ct, osl, rfl, lk, hcd⟩ := F.ex
  refine fn_of lk hcd S len fun A outer s H vs Q E hr hsp => ?_
  obtain ⟨t, h, q⟩ := hbody cdv A outer s H vs Q E hr hsp
  exact ⟨t, h.nox, q⟩
theorem fun_mk {x qual : Str} {st : Stmt} {f : Addr} {oc : Value} {od an : Option Addr} {osl : Array (Option Value)} {kV doc pm cdv ct : Value} (l : K.lookup f = some ⟨oc, od, .func (PySem.W.fnOf x qual (defArgs st) (defBody st) (defScope st) .none kV doc pm an cdv ct), osl⟩)
    (c : PySem.W.codeIn K cdv qual = true) (k : PySem.W.keepIn K (.ref f) = true) : Fun K x qual st f (PySem.W.fnOf x qual (defArgs st) (defBody st) (defScope st) .none kV doc pm an cdv ct) := ⟨⟨oc, od, kV, doc, pm, an, cdv, ct, osl, rfl, l, c⟩, k⟩
end
theorem hu_of {A : Around} {k : Nat} (hr : Room k A) : A.units + 1 < cLine := Nat.lt_of_le_of_lt (Nat.add_le_add_left (by decide : 1 ≤ 64) _) hr.units
theorem small1000 {n : Nat} (h : n ≤ 1000) : n < sizeLine := Nat.lt_of_le_of_lt h (by decide)

/-! ### expressions in short: the name that stands in the i-th slot -/
section
variable {X : Cx}
end

/-! ### tests -/
theorem ite2 {c A B : Prop} [Decidable c] (h1 : c → A) (h2 : ¬ c → B) : if c then A else B := by
  by_cases h : c
  · rw [if_pos h]
    exact h1 h
  · rw [if_neg h]
    exact h2 h

/-! ### heaps -/
/-- all that was tracked is as it was -/
noncomputable def Same (H H' : Hp) : Prop := ∀ b o, H b = some o → H' b = some o
theorem Same.refl (H : Hp) : Same H H := fun _ _ h => h
theorem Same.trans {H H1 H2 : Hp} (a : Same H H1) (b : Same H1 H2) : Same H H2 := fun c o h => b c o (a c o h)
theorem Same.free {H H' : Hp} (e : Same H H') {l : Addr} (h : H' l = Option.none) : H l = Option.none := by
  cases q : H l with
  | none => rfl
  | some o =>
    rw [e l o q] at h
    cases h
theorem Same.seq {K : PySem.W.Frag} {H H' : Hp} {a : Addr} {xs : List V} (e : Same H H') (h : SqL K H a xs) : SqL K H' a xs := by
  rcases h with (h | ⟨o, h⟩) | h
  · exact .inl (.inl (e _ _ h))
  · exact .inl (.inr ⟨o, e _ _ h⟩)
  · exact .inr h

/-! ### a dict's pairs: keys that differ -/
section
variable {κ : Type} [DecidableEq κ]
end
end L2


set_option maxRecDepth 100000
namespace L2
open PySem PySem.Spec PyProof.Rows

/-! ### list comprehensions with one clause -/
/-- the cells that a comprehension's block is handed -/
noncomputable def ccl (sc : Scope) (env : Env) : List (Str × Addr) := (sc.names.filterMap fun p => if p.2 == .free then (env.cells.lookup p.1).map fun c => (p.1, c) else none).reverse

theorem forIn_cells {env : Env} : ∀ (l : List (Str × NameKind)) (acc : List (Str × Addr)), (∀ p ∈ l, p.2 = .free → ∃ c, env.cells.lookup p.1 = some c) →
    (forIn l acc fun (x : Str × NameKind) r => match x with | (name, kind) => (if (kind == NameKind.free) = true then do let a ← cellOf env name; pure (ForInStep.yield ((name, a) :: r)) else pure (ForInStep.yield r) : Sem _)) =
      pure ((l.filterMap fun p => if p.2 == .free then (env.cells.lookup p.1).map fun c => (p.1, c) else none).reverse ++ acc)
  | [], acc, _ => rfl
  | (n, k) :: r, acc, h => by
    rw [List.forIn_cons]
    have hr : ∀ p ∈ r, p.2 = .free → ∃ c, env.cells.lookup p.1 = some c := fun p hp => h p (List.mem_cons_of_mem _ hp)
    by_cases hk : k = .free
    · subst hk
      obtain ⟨c, hc⟩ := h (n, .free) List.mem_cons_self rfl
      have e1 : cellOf env n = pure c := by unfold cellOf; rw [hc]
      simp only [beq_self_eq_true, if_true, e1, pure_bind]
      rw [forIn_cells r _ hr]
      simp [List.filterMap_cons, hc]
    · have hb : (k == NameKind.free) = false := by simpa using hk
      simp only [hb, Bool.false_eq_true, if_false, pure_bind]
      rw [forIn_cells r _ hr]
      simp [List.filterMap_cons, hk]
theorem closure_ccl {sc : Scope} {env : Env} (h : ∀ p ∈ sc.names, p.2 = .free → ∃ c, env.cells.lookup p.1 = some c) : closureFor sc env = pure (ccl sc env) := by
  unfold closureFor
  have q := forIn_cells (env := env) sc.names [] h
  rw [List.append_nil] at q
  unfold ccl
  rw [← q, bind_pure]

theorem lookup_revmap {f : Str → Option Addr} : ∀ (l : List (Str × NameKind)) (x : Str) (c : Addr),
    (l.filterMap fun p => if p.2 == .free then (f p.1).map fun c => (p.1, c) else none).reverse.lookup x = some c → f x = some c := by
  intro l x c h
  have hm := PySem.mem_of_lookup h
  rw [List.mem_reverse, List.mem_filterMap] at hm
  obtain ⟨p, _, e⟩ := hm
  split at e
  · cases q : f p.1 with
    | none => rw [q] at e; cases e
    | some d =>
      rw [q] at e
      simp only [Option.map_some, Option.some.injEq, Prod.mk.injEq] at e
      obtain ⟨e1, e2⟩ := e
      rw [← e1, q, e2]
  · cases e
theorem lookup_some_of_mem {β : Type} : ∀ {l : List (Str × β)} {x : Str} {c : β}, (x, c) ∈ l → ∃ d, l.lookup x = some d
  | [], _, _, h => nomatch h
  | (n, d) :: r, x, c, h => by
    by_cases e : x = n
    · subst e; exact ⟨d, by simp [List.lookup_cons]⟩
    · have hb : (x == n) = false := by simpa using e
      rcases List.mem_cons.mp h with q | q
      · cases q; exact absurd rfl e
      · obtain ⟨d', hd⟩ := lookup_some_of_mem q
        exact ⟨d', by simp [List.lookup_cons, hb, hd]⟩
theorem ccl_sub {sc : Scope} {env : Env} {x : Str} {c : Addr} (h : (ccl sc env).lookup x = some c) : env.cells.lookup x = some c := lookup_revmap (f := fun n => env.cells.lookup n) sc.names x c h
theorem ccl_has {sc : Scope} {env : Env} {x : Str} {c : Addr} (hx : (x, NameKind.free) ∈ sc.names) (hc : env.cells.lookup x = some c) : (ccl sc env).lookup x = some c := by
  have hm : (x, c) ∈ ccl sc env := by
    unfold ccl
    rw [List.mem_reverse, List.mem_filterMap]
    exact ⟨(x, .free), hx, by simp [hc]⟩
  obtain ⟨d, hd⟩ := lookup_some_of_mem hm
  have := ccl_sub hd
  rw [hc] at this
  rw [hd, this]

theorem relabel_cases {env : Env} : ∀ {names : List (Str × NameKind)} {x : Str} {k : NameKind},
    (names.map fun (n, k) => if (k == NameKind.free && env.scope.kind == .function && env.kindOf n == some .cell) then (n, NameKind.cell) else (n, k)).lookup x = some k →
    names.lookup x = some k ∨ (k = .cell ∧ names.lookup x = some .free)
  | [], _, _, h => by simp at h
  | (n, q) :: r, x, k, h => by
    have ih := @relabel_cases env r x k
    rw [List.map_cons] at h
    cases hx : x == n with
    | true =>
      by_cases hc : (q == NameKind.free && env.scope.kind == .function && env.kindOf n == some .cell) = true
      · simp only [hc, if_true, List.lookup_cons, hx, Option.some.injEq] at h
        have hq : q = .free := by
          have := (Bool.and_eq_true _ _ ▸ (Bool.and_eq_true _ _ ▸ hc).1).1
          simpa using this
        subst hq
        exact .inr ⟨h.symm, by simp [List.lookup_cons, hx]⟩
      · simp only [hc, if_false, List.lookup_cons, hx, Option.some.injEq, Bool.false_eq_true] at h
        subst h
        exact .inl (by simp [List.lookup_cons, hx])
    | false =>
      have h' : (r.map fun (n, k) => if (k == NameKind.free && env.scope.kind == .function && env.kindOf n == some .cell) then (n, NameKind.cell) else (n, k)).lookup x = some k := by
        by_cases hc : (q == NameKind.free && env.scope.kind == .function && env.kindOf n == some .cell) = true
        · simpa only [hc, if_true, List.lookup_cons, hx] using h
        · simpa only [hc, if_false, List.lookup_cons, hx, Bool.false_eq_true] using h
      rcases ih h' with z | ⟨z1, z2⟩
      · exact .inl (by simp [List.lookup_cons, hx, z])
      · exact .inr ⟨z1, by simp [List.lookup_cons, hx, z2]⟩
theorem relabel_free {env : Env} : ∀ {names : List (Str × NameKind)} {x : Str}, names.lookup x = some .free →
    (names.map fun (n, k) => if (k == NameKind.free && env.scope.kind == .function && env.kindOf n == some .cell) then (n, NameKind.cell) else (n, k)).lookup x = some .cell ∨
    (names.map fun (n, k) => if (k == NameKind.free && env.scope.kind == .function && env.kindOf n == some .cell) then (n, NameKind.cell) else (n, k)).lookup x = some .free
  | [], _, h => by simp at h
  | (n, q) :: r, x, h => by
    have ih := @relabel_free env r x
    rw [List.map_cons]
    cases hx : x == n with
    | true =>
      simp only [List.lookup_cons, hx, Option.some.injEq] at h
      subst h
      by_cases hc : (NameKind.free == NameKind.free && env.scope.kind == .function && env.kindOf n == some .cell) = true
      · exact .inl (by simp only [hc, if_true, List.lookup_cons, hx])
      · exact .inr (by simp only [hc, if_false, List.lookup_cons, hx, Bool.false_eq_true])
    | false =>
      simp only [List.lookup_cons, hx] at h
      by_cases hc : (q == NameKind.free && env.scope.kind == .function && env.kindOf n == some .cell) = true
      · simpa only [hc, if_true, List.lookup_cons, hx] using ih h
      · simpa only [hc, if_false, List.lookup_cons, hx, Bool.false_eq_true] using ih h

/-- the block's context -/
noncomputable def cxComp (X : Cx) (N : List Str) (sc : Scope) (pins : List (Addr × Obj)) (C : Addr) (s₀ : Shared) (H₀ : Hp) (fp : List Addr) : Cx :=
  { X with N := N, s₀ := s₀, H₀ := H₀, env := compEnvC sc (ccl sc X.env) C X.env, outer := X.stack, ex := fp, fn := fun _ => false, pn := X.pn ++ pins, xe := fun _ _ => False }

/-- the scope of a comprehension: n own names, then the free ones; fr: their places among the names around -/
structure CScope (X : Cx) (n : Nat) (fr : List Nat) (N : List Str) (sc : Scope) : Prop where
  kind : sc.kind = .function
  nocell : ∀ p ∈ sc.names, p.2 ≠ .cell
  own : ∀ p ∈ sc.names, p.2 = .local → sc.names.lookup p.1 = some .local
  out : ∀ p ∈ sc.names, p.2 = .free → X.env.kindOf p.1 = some .cell ∨ X.env.kindOf p.1 = some .free
  len : N.length = n + fr.length
  free : ∀ i x, N[n + i]? = some x → (x, NameKind.free) ∈ sc.names ∧ sc.names.lookup x = some .free ∧ ∃ j, fr[i]? = some j ∧ X.N[j]? = some x
/-- .. by what is written (CScope0) -/
noncomputable def CS0 (scX : Scope) (NX : List Str) (n : Nat) (fr : List Nat) (N : List Str) (sc : Scope) : Prop :=
  sc.kind = .function ∧ (∀ p ∈ sc.names, p.2 ≠ .cell) ∧ (∀ p ∈ sc.names, p.2 = .local → sc.names.lookup p.1 = some .local) ∧
  (∀ p ∈ sc.names, p.2 = .free → scX.names.lookup p.1 = some .cell ∨ scX.names.lookup p.1 = some .free) ∧ N.length = n + fr.length ∧
  (∀ x ∈ N.drop n, (x, NameKind.free) ∈ sc.names ∧ sc.names.lookup x = some .free) ∧ (N.drop n).map some = fr.map fun j => NX[j]?
instance {scX : Scope} {NX : List Str} {n : Nat} {fr : List Nat} {N : List Str} {sc : Scope} : Decidable (CS0 scX NX n fr N sc) := by unfold CS0; exact inferInstance
theorem cs_mk {X : Cx} {scX : Scope} {NX : List Str} {n : Nat} {fr : List Nat} {N : List Str} {sc : Scope} (h1 : X.env.scope = scX) (h2 : X.N = NX) (h : CS0 scX NX n fr N sc) : CScope X n fr N sc := by
  obtain ⟨a, b, c, d, e, f, g⟩ := h
  refine ⟨a, b, c, fun p hp z => ?_, e, fun i x hx => ?_⟩
  · have q := d p hp z
    rw [← h1] at q
    exact q
  · have hd : (N.drop n)[i]? = some x := by rw [List.getElem?_drop]; exact hx
    obtain ⟨f1, f2⟩ := f x (List.mem_of_getElem? hd)
    refine ⟨f1, f2, ?_⟩
    have q : ((N.drop n).map some)[i]? = some (some x) := by rw [List.getElem?_map, hd]; rfl
    rw [g, List.getElem?_map] at q
    cases z : fr[i]? with
    | none => rw [z] at q; cases q
    | some j =>
      rw [z] at q
      refine ⟨j, rfl, ?_⟩
      rw [h2]
      exact Option.some.inj q
noncomputable def cst (n : Nat) (fr : List Nat) (σ : St) : St := List.replicate n none ++ fr.map fun j => (σ[j]?).getD none

theorem closure_ok {X : Cx} {n : Nat} {fr : List Nat} {N : List Str} {sc : Scope} (S : CScope X n fr N sc) (ok : X.Ok) : closureFor sc X.env = pure (ccl sc X.env) :=
  closure_ccl fun p hp e => ok.has p.1 (S.out p hp e)

section
variable {X : Cx} {n : Nat} {fr : List Nat} {N : List Str} {sc : Scope} {pins : List (Addr × Obj)} {σ : St} {H : Hp} {s : Shared} {fp : List Addr} {h₁ : Heap} {tk : Nat}

theorem comp_start (S : CScope X n fr N sc) (I : Inv X pins σ H s) (hf : ∀ b ∈ fp, FpOk X pins H b) (hlt : ∀ b ∈ fp, b < s.heap.objs.size)
    (hn : h₁.Ns s.heap.objs.size (fun _ => none)) (hk : ∀ b o, s.heap.get? b = some o → h₁.get? b = some o) :
    Inv (cxComp X N sc pins s.heap.objs.size s H fp) [] (cst n fr σ) H { s with heap := h₁, toks := tk } := by
  have hsub : ∀ b ∈ frs X.stack, b ∈ X.env.locals :: X.fs := I.stkSub
  refine ⟨⟨I.ok.mod, ?_, I.ok.glob, I.ok.blt, Nat.le_refl _, fun x y c h1 h2 => ?_, fun x hx => ?_, fun x c z => (by cases z), I.ok.hd, I.ok.frames, .inl rfl, fun b hb => ⟨?_, fun x c e => ?_⟩, fun b o e => I.bs b o e, Nat.le_trans I.ok.bsz I.sz, fun b o e hb => ?_, fun b hb hz => ?_, I.stack, I.stkFree⟩,
    rfl, I.bare, Un.kept hk, ⟨_, hn, fun i x v e1 e2 e3 => ?_⟩, fun x c e => ?_, I.hok.fresh (Nat.le_refl _), fun x c e => ?_, fun p hp => ?_, I.hok.kept hk, ?_⟩
  · exact S.kind
  · exact I.ok.inj x y c (ccl_sub h1) (ccl_sub h2)
  · have hx' : (relabel sc X.env).names.lookup x = some .cell ∨ (relabel sc X.env).names.lookup x = some .free := hx
    have fr' : sc.names.lookup x = some .free := by
      rcases hx' with z | z
      · rcases relabel_cases z with q | ⟨_, q⟩
        · exact absurd rfl (S.nocell _ (PySem.mem_of_lookup q))
        · exact q
      · rcases relabel_cases z with q | ⟨q, _⟩
        · exact q
        · cases q
    obtain ⟨c, hc⟩ := I.ok.has x (S.out _ (PySem.mem_of_lookup fr') rfl)
    exact ⟨c, ccl_has (PySem.mem_of_lookup fr') hc⟩
  · exact Nat.ne_of_lt (hlt b hb)
  · exact (hf b hb).2.2.2.2.1 x c (ccl_sub e)
  · rcases (hf b hb).2.2.2.1 with z | z
    · exact I.ok.noex b o e z
    · exact absurd (Nat.lt_of_lt_of_le (Heap.lt_size e) (Nat.le_trans I.ok.bsz z)) (Nat.lt_irrefl _)
  · rcases List.mem_cons.mp (hsub b hz) with z | z
    · exact (hf b hb).2.1 z
    · exact (hf b hb).2.2.1 z
  · have e1' : N[i]? = some x := e1
    have hi : n ≤ i := by
      apply Nat.le_of_not_lt
      intro hlt
      unfold cst at e2
      rw [List.getElem?_append_left (by simpa using hlt), List.getElem?_replicate] at e2
      split at e2 <;> cases e2
    obtain ⟨j, rfl⟩ : ∃ j, i = n + j := ⟨i - n, by omega⟩
    obtain ⟨hm, hl, q, hq, hX⟩ := S.free j x e1'
    have e2' : (σ[q]?).getD none = some v := by
      unfold cst at e2
      rw [List.getElem?_append_right (by simp)] at e2
      simp only [List.length_replicate, Nat.add_sub_cancel_left, List.getElem?_map, hq, Option.map_some, Option.some.injEq] at e2
      exact e2
    have hσ : σ[q]? = some (some v) := by
      cases z : σ[q]? with
      | none => rw [z] at e2'; cases e2'
      | some w => rw [z] at e2'; simp only [Option.getD_some] at e2'; rw [e2']
    have ko := S.out _ hm rfl
    have hv : Vis X.env.scope x := by
      rcases ko with z | z
      · exact .inr (.inl z)
      · exact .inr (.inr z)
    obtain ⟨m, _, hloc⟩ := I.loc
    obtain ⟨u, r, l⟩ := hloc q x v hX hσ hv
    refine ⟨u, r, .inr ⟨?_, ?_⟩⟩
    · exact relabel_free hl
    · rcases l with ⟨k, _⟩ | ⟨_, c, hc, hcell⟩
      · rcases ko with z | z <;> (rw [k] at z; cases z)
      · refine ⟨c, ccl_has hm hc, ?_⟩
        obtain ⟨o, ho, hd⟩ := hcell
        exact ⟨o, hk c o ho, hd⟩
  · obtain ⟨v, o, ho, hd⟩ := I.cell x c (ccl_sub e)
    exact ⟨v, o, hk c o ho, hd⟩
  · exact I.freeC x c (ccl_sub e)
  · have hp' : p ∈ X.pn ++ pins := by
      have z : p ∈ (X.pn ++ pins) ++ [] := hp
      rwa [List.append_nil] at z
    obtain ⟨e, hn', ne, nf, d⟩ := I.pin p hp'
    refine ⟨hk p.1 p.2 e, hn', Nat.ne_of_lt (Heap.lt_size e), fun hz => ?_, d⟩
    rcases List.mem_cons.mp (hsub p.1 hz) with z | z
    · exact ne z
    · exact nf z
  · show (cst n fr σ).length = N.length
    unfold cst
    rw [List.length_append, List.length_replicate, List.length_map, S.len]

/-- back from the block -/
theorem comp_back {C : Addr} {σ' : St} {H' : Hp} {s' : Shared} {pins' : List (Addr × Obj)} (I : Inv X pins σ H s) (hf : ∀ b ∈ fp, FpOk X pins H b) (J : Inv (cxComp X N sc pins C s H fp) pins' σ' H' s') : Inv X pins σ H' s' :=
  I.call' (ch := fp) J.os J.base J.hok J.bare fun b hb => ⟨(hf b hb).2.2.2.1, (hf b hb).2.1, (hf b hb).2.2.2.2.1, (hf b hb).2.2.2.2.2⟩
end

/-- the clause's tests -/
noncomputable def PIfs (X : Cx) (ifs : List Expr) (t : TT) : Prop :=
  ∀ (pins : List (Addr × Obj)) (s : Shared) (σ : St) (H : Hp) (Q : Bool → Hp → Prop), Inv X pins σ H s → t σ H Q →
    wpAny (model X.prog X.w) X.A (forIn ifs true fun c r => if r = true then do let ok ← isTrue c X.env (eval c X.env); pure (ForInStep.yield ok) else pure (ForInStep.yield r)) (TP X pins σ Q) X.xe s
noncomputable def tTrue : TT := fun _ H Q => Q true H
theorem pifs_nil {X : Cx} : PIfs X [] tTrue := fun _ _ _ H _ I h => wpAny_pure ⟨H, I, h⟩
theorem pifs_one {X : Cx} {c : Expr} {t : TT} (hc : PT X c t) : PIfs X [c] t := by
  intro pins s σ H Q I h
  rw [List.forIn_cons]
  refine wpAny_bind ?_
  rw [if_pos rfl]
  refine wpAny_bind (thn (hc pins s σ H Q I h) fun b s1 q => wpAny_pure ?_)
  exact wpAny_pure q

/-- the turns of a comprehension that fills the list at D, from the names σ and the heap H on -/
noncomputable def CompW (J : It) (g : TG) (tc : TT) (te : TE) (D : Addr) (σ : St) (H : Hp) (Q : VK) : Prop :=
  ∃ W : Nat → Nat → St → Hp → Prop, (∃ m, W 0 m σ H) ∧ ∀ i m σ' H', W i m σ' H' →
    (J.stop i H' ∧ Q (.ref D) H') ∨ (J.go i H' ∧ ∃ N : St → Hp → Prop, (∀ σ3 H3, N σ3 H3 → ∃ m', m' < m ∧ W (i + 1) m' σ3 H3) ∧ ∀ x H2, J.yld i H' x H2 → g x σ' H2 fun σ3 H3 => tc σ3 H3 fun b H4 =>
      if b = true then te σ3 H4 fun y H5 => ∃ ys, H5 D = some (.lst ys) ∧ ys.length < sizeLine ∧ N σ3 (upd H5 D (.lst (ys ++ [y])))
      else N σ3 H4)
/-- a comprehension's reading -/
noncomputable def tComp (wi : TI) (n : Nat) (fr : List Nat) (g : TG) (tc : TT) (te : TE) : TE := fun σ H Q => wi σ H fun J H1 => ∀ D, H1 D = none → CompW J g tc te D (cst n fr σ) (upd H1 D (.lst [])) Q

section
variable {X : Cx} {n : Nat} {fr : List Nat} {N : List Str} {sc : Scope} {elt tg iter : Expr} {ifs : List Expr} {pos : Pos} {wi : TI} {g : TG} {tc : TT} {te : TE}

theorem comp_run {pins : List (Addr × Obj)} {σ : St} {H : Hp} {s : Shared} {fp : List Addr} {it : Addr} {tn : Nat → Heap → Prop} {J : It} {Q : VK} {E : Value → Shared → Prop} {RR : Value → Addr → Result → Shared → Prop}
    (hc : X.calm = true) (S : CScope X n fr N sc)
    (hg : ∀ C s₀ H₀ fp, PG (cxComp X N sc pins C s₀ H₀ fp) tg g) (hi : ∀ C s₀ H₀ fp, PIfs (cxComp X N sc pins C s₀ H₀ fp) ifs tc) (he : ∀ C s₀ H₀ fp, PE (cxComp X N sc pins C s₀ H₀ fp) elt te)
    (I : Inv X pins σ H s) (T : Turn X.prog X.w X.K tg J fp it tn) (st : tn 0 s.heap) (hf : ∀ b ∈ fp, FpOk X pins H b)
    (h : ∀ D, H D = none → CompW J g tc te D (cst n fr σ) (upd H D (.lst [])) Q)
    (hR : ∀ D C H' s', Inv X pins σ H' s' → FpOk X pins H' C → (∃ m, s'.heap.Ns C m) → Q (.ref D) H' → RR (.ref D) C (.ok .next) s') :
    wpAny (model X.prog X.w) X.A (newList []) (fun acc s₃ => wpAny (model X.prog X.w) X.A (newFunctionEnv sc X.env.globals (ccl sc X.env) [] X.env.qual none .none (some X.env)) (fun cenv s₄ =>
      codeAny (model X.prog X.w) X.A (.compStart (.ListComp elt [⟨tg, iter, ifs, 0⟩] sc pos) 0 (.ref it) acc { cenv with scope := relabel sc X.env }) (RR acc cenv.locals) s₄) E s₃) E s := by
  have hfree : H s.heap.objs.size = none := I.hok.fresh (Nat.le_refl _)
  have hltf : ∀ b ∈ fp, b < s.heap.objs.size := fun b hb => by
    obtain ⟨o, e, _⟩ := T.obj 0 s.heap st b hb
    exact Heap.lt_size e
  obtain ⟨W, ⟨m0, w0⟩, turn⟩ := h s.heap.objs.size hfree
  refine wpAny_newObj_type (wpAny_newFunctionEnv S.nocell (by intro y hy; simp at hy) (fun h₁ hns₁ hsb₁ => ?_) S.kind)
  dsimp only at hns₁ hsb₁ ⊢
  have I3 : Inv X pins σ (upd H s.heap.objs.size (.lst [])) { s with heap := s.heap.push { cls := .type "list", dict := none, data := .seq ([] : List Value).toArray } } :=
    I.laid (t' := s.toks) (fun b u e => Heap.get?_push_of_some _ e) (Nat.le_refl _) ⟨Nat.zero_le _, [], 0, .nil, Heap.get?_push_size _ rfl⟩
  have hf3 : ∀ b ∈ fp, FpOk X pins (upd H s.heap.objs.size (.lst [])) b := fun b hb => ⟨by rw [upd_ne (Nat.ne_of_lt (hltf b hb))]; exact (hf b hb).1, (hf b hb).2⟩
  generalize hs3 : ({ s with heap := s.heap.push { cls := .type "list", dict := none, data := .seq ([] : List Value).toArray } } : Shared) = s3 at *
  have e3 : s3.heap = s.heap.push { cls := .type "list", dict := none, data := .seq ([] : List Value).toArray } := by rw [← hs3]
  have et : s3.toks = s.toks := by rw [← hs3]
  have hlt3 : ∀ b ∈ fp, b < s3.heap.objs.size := fun b hb => by rw [e3, Heap.size_push]; exact Nat.lt_succ_of_lt (hltf b hb)
  have hk3 : ∀ b o, s3.heap.get? b = some o → h₁.get? b = some o := fun b o e => hsb₁.extBut b o (by rw [← e3]; exact Nat.ne_of_lt (Heap.lt_size e)) (by rw [← e3]; exact Heap.get?_push_of_some _ e)
  have hns3 : h₁.Ns s3.heap.objs.size (fun _ => none) := by rw [e3]; exact hns₁
  have I4 := comp_start (tk := s.toks + ([] : List (Str × Value)).length) S I3 hf3 hlt3 hns3 hk3
  have hDk : ∀ b o, s.heap.get? b = some o → h₁.get? b = some o := fun b o e => hk3 b o (by rw [e3]; exact Heap.get?_push_of_some _ e)
  have st4 : tn 0 h₁ := T.keep 0 s.heap h₁ st fun b hb o e => hDk b o e
  have hfX : ∀ {H' : Hp}, (∀ b ∈ fp, H' b = none) → ∀ b ∈ fp, FpOk (cxComp X N sc pins s3.heap.objs.size s3 (upd H s.heap.objs.size (.lst [])) fp) [] H' b := fun {H'} hn b hb => by
    refine ⟨hn b hb, Nat.ne_of_lt (hlt3 b hb), fun z => ?_, .inl hb, fun x c e => (hf3 b hb).2.2.2.2.1 x c (ccl_sub e), fun p hp => ?_⟩
    · rcases List.mem_cons.mp (I3.stkSub b z) with q | q
      · exact (hf3 b hb).2.1 q
      · exact (hf3 b hb).2.2.1 q
    · have hp' : p ∈ (X.pn ++ pins) ++ [] := hp
      rw [List.append_nil] at hp'
      exact (hf3 b hb).2.2.2.2.2 p hp'
  have loop : ∀ s₄ : Shared, s₄ = { s3 with heap := h₁, toks := s.toks + ([] : List (Str × Value)).length } →
      codeAny (model X.prog X.w) X.A (.compLoop (.ListComp elt [⟨tg, iter, ifs, 0⟩] sc pos) 0 (.ref it) (.ref s.heap.objs.size) (compEnvC sc (ccl sc X.env) s3.heap.objs.size X.env)) (RR (.ref s.heap.objs.size) s3.heap.objs.size) s₄ := by
    rintro s₄ rfl
    refine codeAny_loop rfl (fun k s' => ∃ i σ' H', Inv (cxComp X N sc pins s3.heap.objs.size s3 (upd H s.heap.objs.size (.lst [])) fp) [] σ' H' s' ∧ tn i s'.heap ∧ (∀ b ∈ fp, H' b = none) ∧ W i k σ' H') ?_ m0
      ⟨0, _, _, I4, st4, fun b hb => (hf3 b hb).1, w0⟩
    rintro k s5 ⟨i, σ5, H5, I5, st5, fr5, w5⟩
    show wpAny _ X.A ((compTurn (.ListComp elt [⟨tg, iter, ifs, 0⟩] sc pos) 0 (.ref it) (.ref s.heap.objs.size) (compEnvC sc (ccl sc X.env) s3.heap.objs.size X.env)).onRaise (fun x => do noteFrame x (compEnvC sc (ccl sc X.env) s3.heap.objs.size X.env); theTreesLotGoes x)) _ _ s5
    refine wpAny_noted ?_
    rw [compTurn_list]
    refine wpAny_bind (wpAny_standAt (wpAny_bind ?_))
    have nev : ∀ {α : Type} {t : Sem α} {Q₁ : α → Shared → Prop} {E₁ : Value → Shared → Prop} {s₁ : Shared}, wpAny (model X.prog X.w) X.A t Q₁ (fun _ _ => False) s₁ → wpAny (model X.prog X.w) X.A t Q₁ E₁ s₁ := fun h => wpAny_noRaise h
    rcases turn i k σ5 H5 w5 with ⟨stop, qn⟩ | ⟨go, Nn, hN, step⟩
    · refine nev (thn (T.done (cxComp X N sc pins s3.heap.objs.size s3 (upd H s.heap.objs.size (.lst [])) fp) rfl rfl rfl hc i [] s5 σ5 H5 (fun _ _ => False) I5 (hfX fr5) st5 stop) fun r s6 ⟨hr, I6⟩ => ?_)
      subst hr
      have B : Inv X pins σ H5 s6 := comp_back I3 hf3 I6
      refine wpAny_pure (hR _ _ H5 s6 B (I3.fpOk (Nat.le_refl _) I6.free) ?_ qn)
      obtain ⟨m, hm, _⟩ := I6.loc
      exact ⟨m, hm⟩
    · refine nev (thn (T.item (cxComp X N sc pins s3.heap.objs.size s3 (upd H s.heap.objs.size (.lst [])) fp) rfl rfl rfl hc i [] s5 σ5 H5 (fun _ _ => False) I5 (hfX fr5) st5 go) fun r s6 ⟨u, hr, h6⟩ => ?_)
      subst hr
      refine wpAny_bind (nev (thn h6 fun _ s7 ⟨x, H7, I7, r7, y7, st7, fr7⟩ => ?_))
      have I7' := I7.pinned (hfX fr7) (T.obj _ _ st7)
      refine wpAny_bind (nev (thn (hg _ _ _ _ _ s7 σ5 H7 x u _ I7' r7 (step x H7 y7)) fun _ s8 ⟨σ8, H8, I8, q8⟩ => ?_))
      refine wpAny_bind (nev (thn (hi _ _ _ _ _ s8 σ8 H8 _ I8 q8) fun b s9 ⟨H9, I9, q9⟩ => ?_))
      have fin : ∀ {s10 : Shared} {H10 : Hp} {m' : Nat}, m' < k → Inv (cxComp X N sc pins s3.heap.objs.size s3 (upd H s.heap.objs.size (.lst [])) fp) ([] ++ pinsAt fp s7.heap) σ8 H10 s10 → W (i + 1) m' σ8 H10 →
          ∃ m, m < k ∧ ∃ i σ' H', Inv (cxComp X N sc pins s3.heap.objs.size s3 (upd H s.heap.objs.size (.lst [])) fp) [] σ' H' s10 ∧ tn i s10.heap ∧ (∀ b ∈ fp, H' b = none) ∧ W i m σ' H' := fun {s10 H10 m'} hm I10 w10 => by
        refine ⟨m', hm, i + 1, σ8, H10, I10.unpinned, T.keep _ _ _ st7 fun b hb o e => (I10.pin (b, o) (List.mem_append_right _ (List.mem_append_right _ (mem_pinsAt hb e)))).1, fun b hb => ?_, w10⟩
        obtain ⟨o, e, d⟩ := T.obj _ _ st7 b hb
        exact (I10.pin (b, o) (List.mem_append_right _ (List.mem_append_right _ (mem_pinsAt hb e)))).2.1
      cases b with
      | false =>
        rw [if_neg Bool.false_ne_true] at q9
        obtain ⟨m', hm, w9⟩ := hN _ _ q9
        exact wpAny_pure ⟨rfl, fin hm I9 w9⟩
      | true =>
        rw [if_pos rfl] at q9
        refine wpAny_bind (wpAny_bind (nev (thn (he _ _ _ _ _ s9 σ8 H9 _ I9 q9) fun v s10 ⟨y, H10, I10, r10, q10⟩ => ?_)))
        obtain ⟨ys, hy, hz, n10⟩ := q10
        obtain ⟨m', hm, w10⟩ := hN _ _ n10
        refine wpAny_bind (nev (thn (mt_append _ s10 σ8 H10 (.ref s.heap.objs.size) [y] (.ref s.heap.objs.size) [v] (fun z H' => H' = upd H10 s.heap.objs.size (.lst (ys ++ [y]))) I10 rfl (.cons r10 .nil) ⟨_, ys, y, rfl, rfl, hy, hz, rfl⟩) fun z s11 ⟨_, H11, I11, _, e11⟩ => ?_))
        subst e11
        exact wpAny_pure (wpAny_pure ⟨rfl, fin hm I11 w10⟩)
  subst hs3
  exact codeAny_compStart_list (loop _ rfl) (T.self _ 0 _ _ _ st4 (loop _ rfl))

theorem pe_comp (hc : X.calm = true) (S : CScope X n fr N sc) (hit : PI X tg iter wi)
    (hg : ∀ pins C s₀ H₀ fp, PG (cxComp X N sc pins C s₀ H₀ fp) tg g) (hi : ∀ pins C s₀ H₀ fp, PIfs (cxComp X N sc pins C s₀ H₀ fp) ifs tc) (he : ∀ pins C s₀ H₀ fp, PE (cxComp X N sc pins C s₀ H₀ fp) elt te)
    (hs : ∀ x, foldedSetIterable iter X.env x = pure x := by intro _; rfl) : PE X (.ListComp elt [⟨tg, iter, ifs, 0⟩] sc pos) (tComp wi n fr g tc te) := by
  intro pins s σ H Q I h
  rw [eval_ListComp]
  refine wpAny_comprehension_free (use := none) rfl hs (closure_ok S I.ok) S.kind S.own ?_
  refine thn (hit pins s σ H _ I h) fun v s1 h1 => thn h1 fun itv s2 h2 => ?_
  obtain ⟨it, fp, tn, J, H2, e, I2, T, st2, f2, q2⟩ := h2
  subst e
  refine comp_run (RR := fun acc C => compPost (model X.prog X.w) X.A X.xe none (EP X pins σ Q) acc C) hc S (hg pins) (hi pins) (he pins) I2 T st2 f2 q2 fun D C H' s' I' fC hm q => ?_
  obtain ⟨m, hm⟩ := hm
  refine ⟨m, hm, fun h' hs' => ⟨.ref D, H', I'.turned (t' := s'.toks) (fun b o hb e => (hs'.2 b hb).trans e) fC.1 fC.2.1 fC.2.2.2.1 fC.2.2.2.2.1 fC.2.2.2.2.2, rfl, q⟩⟩

end

/-! ### the forms one uses -/
theorem comp_range {lo : Int} {n : Nat} {g : TG} {tc : TT} {te : TE} {σ : St} {H : Hp} {D : Addr} {Q : VK} (Pv : Nat → St → Hp → Prop) (h0 : Pv 0 σ (upd H D (.lst [])))
    (hs : ∀ i σ' H', i < n → Pv i σ' H' → g (.int (lo + i)) σ' H' fun σ3 H3 => tc σ3 H3 fun b H4 =>
      if b = true then te σ3 H4 fun y H5 => ∃ ys, H5 D = some (.lst ys) ∧ ys.length < sizeLine ∧ Pv (i + 1) σ3 (upd H5 D (.lst (ys ++ [y]))) else Pv (i + 1) σ3 H4) (hd : ∀ σ' H', Pv n σ' H' → Q (.ref D) H') :
    CompW (Itr lo n) g tc te D σ (upd H D (.lst [])) Q := by
  refine ⟨fun i m σ H => m = n - i ∧ i ≤ n ∧ Pv i σ H, ⟨n, by simp, Nat.zero_le _, h0⟩, ?_⟩
  rintro i m σ H ⟨rfl, hi, p⟩
  by_cases hlt : i < n
  · refine .inr ⟨hlt, Pv (i + 1), fun σ' H' p' => ⟨n - (i + 1), by omega, rfl, hlt, p'⟩, fun x H' y => ?_⟩
    obtain ⟨e, y⟩ := y
    subst e y
    exact hs i σ _ hlt p
  · have e : i = n := by omega
    subst e
    exact .inl ⟨Nat.le_refl _, hd σ H p⟩
theorem comp_tup {K : PySem.W.Frag} {a : Addr} {xs : List V} {g : TG} {tc : TT} {te : TE} {σ : St} {H : Hp} {D : Addr} {Q : VK} (Pv : Nat → St → Hp → Prop) (h0 : Pv 0 σ (upd H D (.lst []))) (hl : ∀ i σ H, i ≤ xs.length → Pv i σ H → SqT K H a xs)
    (hs : ∀ i x σ' H', xs[i]? = some x → Pv i σ' H' → g x σ' H' fun σ3 H3 => tc σ3 H3 fun b H4 =>
      if b = true then te σ3 H4 fun y H5 => ∃ ys, H5 D = some (.lst ys) ∧ ys.length < sizeLine ∧ Pv (i + 1) σ3 (upd H5 D (.lst (ys ++ [y]))) else Pv (i + 1) σ3 H4) (hd : ∀ σ' H', Pv xs.length σ' H' → Q (.ref D) H') :
    CompW (Itt K a) g tc te D σ (upd H D (.lst [])) Q := by
  refine ⟨fun i m σ H => m = xs.length - i ∧ i ≤ xs.length ∧ Pv i σ H, ⟨xs.length, by simp, Nat.zero_le _, h0⟩, ?_⟩
  rintro i m σ H ⟨rfl, hi, p⟩
  have q := hl i σ H hi p
  by_cases hlt : i < xs.length
  · refine .inr ⟨⟨xs, xs[i], q, by simp [hlt]⟩, Pv (i + 1), fun σ' H' p' => ⟨xs.length - (i + 1), by omega, rfl, hlt, p'⟩, fun x H' y => ?_⟩
    obtain ⟨e, y⟩ := y
    subst e
    exact hs i x σ _ (y xs q) p
  · have e : i = xs.length := by omega
    subst e
    exact .inl ⟨⟨xs, q, Nat.le_refl _⟩, hd σ H p⟩
theorem comp_list {K : PySem.W.Frag} {a : Addr} {xs : List V} {g : TG} {tc : TT} {te : TE} {σ : St} {H : Hp} {D : Addr} {Q : VK} (Pv : Nat → St → Hp → Prop) (h0 : Pv 0 σ (upd H D (.lst []))) (hl : ∀ i σ H, i ≤ xs.length → Pv i σ H → SqL K H a xs)
    (hs : ∀ i x σ' H', xs[i]? = some x → Pv i σ' H' → g x σ' H' fun σ3 H3 => tc σ3 H3 fun b H4 =>
      if b = true then te σ3 H4 fun y H5 => ∃ ys, H5 D = some (.lst ys) ∧ ys.length < sizeLine ∧ Pv (i + 1) σ3 (upd H5 D (.lst (ys ++ [y]))) else Pv (i + 1) σ3 H4) (hd : ∀ σ' H', Pv xs.length σ' H' → Q (.ref D) H') :
    CompW (Itl K a) g tc te D σ (upd H D (.lst [])) Q := by
  refine ⟨fun i m σ H => m = xs.length - i ∧ i ≤ xs.length ∧ Pv i σ H, ⟨xs.length, by simp, Nat.zero_le _, h0⟩, ?_⟩
  rintro i m σ H ⟨rfl, hi, p⟩
  have q := hl i σ H hi p
  by_cases hlt : i < xs.length
  · refine .inr ⟨⟨xs, xs[i], q, by simp [hlt]⟩, Pv (i + 1), fun σ' H' p' => ⟨xs.length - (i + 1), by omega, rfl, hlt, p'⟩, fun x H' y => ?_⟩
    obtain ⟨e, y⟩ := y
    subst e
    exact hs i x σ _ (y xs q) p
  · have e : i = xs.length := by omega
    subst e
    exact .inl ⟨⟨xs, q, Nat.le_refl _⟩, hd σ H p⟩
end L2
namespace L2
open PySem PySem.Spec PyProof.Rows
/-! ### names, by facts shown once -/
noncomputable def VarOk (sc : Scope) (x : Str) : Prop := Vis sc x ∧ (x == ("__debug__" : Str)) = false ∧ (x == ("__classdict__" : Str)) = false
instance {sc : Scope} {x : Str} : Decidable (VarOk sc x) := by unfold VarOk Vis; exact inferInstance
instance {sc : Scope} {x : Str} : Decidable (Loc sc x) := by unfold Loc; exact inferInstance
theorem pvx {X : Cx} (i : Nat) {x : Str} {pos : Pos} (v : VarOk X.env.scope x) (hN : X.N[i]? = some x := by rfl) : PE X (.Name x pos) (tVar i) := pe_var hN v.1 v.2.1 v.2.2
noncomputable def VarC (sc : Scope) (x : Str) : Prop := (sc.names.lookup x = some .local ∨ sc.names.lookup x = some .free) ∧ (x == ("__debug__" : Str)) = false ∧ (x == ("__classdict__" : Str)) = false
instance {sc : Scope} {x : Str} : Decidable (VarC sc x) := by unfold VarC; exact inferInstance
theorem VarC.ok {sc : Scope} {env : Env} {x : Str} (h : VarC sc x) : VarOk (relabel sc env) x := by
  obtain ⟨h1, h2⟩ := h
  refine ⟨?_, h2⟩
  rcases h1 with h1 | h1
  · exact .inl (lookup_relabel_local h1)
  · rcases relabel_free (env := env) h1 with z | z
    · exact .inr (.inl z)
    · exact .inr (.inr z)
theorem relabel_glob {env : Env} : ∀ {names : List (Str × NameKind)} {x : Str}, names.lookup x = some .globalImplicit →
    (names.map fun (n, k) => if (k == NameKind.free && env.scope.kind == .function && env.kindOf n == some .cell) then (n, NameKind.cell) else (n, k)).lookup x = some .globalImplicit
  | [], _, h => by simp at h
  | (n, q) :: r, x, h => by
    have ih := @relabel_glob env r x
    rw [List.map_cons]
    cases hx : x == n with
    | true =>
      simp only [List.lookup_cons, hx, Option.some.injEq] at h
      subst h
      simp [List.lookup_cons, hx]
    | false =>
      simp only [List.lookup_cons, hx] at h
      by_cases hc : (q == NameKind.free && env.scope.kind == .function && env.kindOf n == some .cell) = true
      · simpa only [hc, if_true, List.lookup_cons, hx] using ih h
      · simpa only [hc, if_false, List.lookup_cons, hx, Bool.false_eq_true] using ih h
theorem glC {X : Cx} {N : List Str} {sc : Scope} {pins : List (Addr × Obj)} {C : Addr} {s₀ : Shared} {H₀ : Hp} {fp : List Addr} {x : Str} (h : sc.names.lookup x = some .globalImplicit) : Gl (cxComp X N sc pins C s₀ H₀ fp) x := relabel_glob h
theorem pgx {X : Cx} {i : Nat} {x : Str} {pos : Pos} (hN : X.N.Nodup) (hx : X.env.scope.names.lookup x = some .local) (hi : X.N[i]? = some x := by rfl) : PG X (.Name x pos) (gName i) := pg_name hN hi (.inl hx) (.inr hx)
theorem locC {sc : Scope} {env : Env} {x : Str} (h : sc.names.lookup x = some .local) : (relabel sc env).names.lookup x = some .local := lookup_relabel_local h
end L2

set_option maxRecDepth 100000
namespace L2
open PySem PySem.Spec PyProof.Rows

/-! ### // by a positive divisor of any written size -/
noncomputable def CDivB (_ j : Int) : Prop := 0 < j ∧ j.natAbs.log2 < 9000
theorem op_fdivB {X : Cx} : OpR X (binaryOp .FloorDiv) (rI CDivB fun i j => .int (i / j)) := opI fun i j _ _ _ _ _ hc q => by
  have h1 : (0 : Int) < j := hc.1
  exact floordiv_int (by omega) (by rw [Int.fdiv_eq_ediv_of_nonneg i (by omega)]; exact q) (.inl (PyProof.noPylong_of_log2 hc.2))

/-! ### values as data, and == of them -/
mutual
inductive DatV (K : PySem.W.Frag) (H : Hp) : V → PyData → Prop where
  | non : DatV K H .non .none
  | bl (b : Bool) : DatV K H (.bl b) (.bool b)
  | int (i : Int) : DatV K H (.int i) (.int i)
  | str (x : Str) : DatV K H (.str x) (.str x)
  | lst {a : Addr} {xs : List V} {ds : List PyData} (h : SqL K H a xs) (r : DatVs K H xs ds) : DatV K H (.ref a) (.list ds)
  | tup {a : Addr} {xs : List V} {ds : List PyData} (h : SqT K H a xs) (r : DatVs K H xs ds) : DatV K H (.ref a) (.tuple ds)
inductive DatVs (K : PySem.W.Frag) (H : Hp) : List V → List PyData → Prop where
  | nil : DatVs K H [] []
  | cons {x : V} {d : PyData} {xs : List V} {ds : List PyData} (h : DatV K H x d) (r : DatVs K H xs ds) : DatVs K H (x :: xs) (d :: ds)
end
theorem datVs_ints {K : PySem.W.Frag} {H : Hp} : ∀ ns : List Int, DatVs K H (ns.map V.int) (ns.map PyData.int)
  | [] => .nil
  | n :: r => .cons (.int n) (datVs_ints r)
theorem datVs_strs {K : PySem.W.Frag} {H : Hp} : ∀ ns : List Str, DatVs K H (ns.map V.str) (ns.map PyData.str)
  | [] => .nil
  | n :: r => .cons (.str n) (datVs_strs r)

section
variable {X : Cx} {pins : List (Addr × Obj)} {σ : St} {H : Hp} {s : Shared}
mutual
theorem DatV.reads (I : Inv X pins σ H s) : ∀ {x : V} {d : PyData} {u : Value}, DatV X.K H x d → RelV x u → ∃ as, Reads s.heap u d as
  | _, _, _, .non, r => by cases (show _ = Value.none from r); exact ⟨_, .none⟩
  | _, _, _, .bl b, r => by cases (show _ = Value.bool b from r); exact ⟨_, .bool b⟩
  | _, _, _, .int i, r => by obtain ⟨t, rfl⟩ := r; exact ⟨_, .int i t⟩
  | _, _, _, .str x, r => by obtain ⟨t, rfl⟩ := r; exact ⟨_, .str x t⟩
  | _, _, _, .lst h q, r => by
    cases (show _ = Value.ref _ from r)
    obtain ⟨its, rv, ⟨o, n, e, c, _, d⟩, _⟩ := I.list h
    obtain ⟨as, hr⟩ := DatVs.reads I q rv
    exact ⟨_, .list e c d (by simpa using hr)⟩
  | _, _, _, .tup h q, r => by
    cases (show _ = Value.ref _ from r)
    obtain ⟨its, rv, ⟨o, e, c, n, d⟩, _⟩ := I.tuple h
    obtain ⟨as, hr⟩ := DatVs.reads I q rv
    exact ⟨_, .tuple e c d (by simpa using hr)⟩
theorem DatVs.reads (I : Inv X pins σ H s) : ∀ {xs : List V} {ds : List PyData} {us : List Value}, DatVs X.K H xs ds → Vals xs us → ∃ as, ReadsAll s.heap us ds as
  | _, _, _, .nil, .nil => ⟨_, .nil⟩
  | _, _, _, .cons h r, .cons q t => by
    obtain ⟨as, h1⟩ := DatV.reads I h q
    obtain ⟨bs, h2⟩ := DatVs.reads I r t
    exact ⟨_, .cons h1 h2⟩
end
end
noncomputable def rEqD (K : PySem.W.Frag) (neg : Bool) : R2 := fun x y H Q => ∃ d e, DatV K H x d ∧ DatV K H y e ∧ SeqAt.shaped d = true ∧ SeqAt.shaped e = true ∧ Q (.bl (if neg then !PyData.eqv d e else PyData.eqv d e)) H
theorem op_eqD {X : Cx} (hu : X.A.units + 64 < cLine) : OpR X (compareOp .Eq) (rEqD X.K false) := by
  intro pins s σ H x y v u Q I rx ry h
  obtain ⟨d, e, hd, he, sd, se, q⟩ := h
  obtain ⟨as, h1⟩ := hd.reads I rx
  obtain ⟨bs, h2⟩ := he.reads I ry
  exact eq_dataH h1 h2 sd se hu ⟨.bl _, H, I, rfl, q⟩

/-! ### sep.join(texts) -/
theorem strs_vals : ∀ {ts : List Str} {us : List Value}, Vals (ts.map V.str) us → ∃ l : List (Str × Tok), strValues l = us ∧ l.map (·.1) = ts
  | [], _, .nil => ⟨[], rfl, rfl⟩
  | x :: ts, _, .cons r t => by
    obtain ⟨k, rfl⟩ := r
    obtain ⟨l, h1, h2⟩ := strs_vals t
    exact ⟨(x, k) :: l, by rw [← h1]; rfl, by rw [← h2]; rfl⟩
noncomputable def rJoin (K : PySem.W.Frag) : V → List V → Hp → VK → Prop := fun x vs H Q => ∃ sep p ts, x = .str sep ∧ vs = [.ref p] ∧ (SqL K H p (ts.map V.str) ∨ SqT K H p (ts.map V.str)) ∧ JoinOk sep ts = true ∧ Q (.str (Txt.join sep ts)) H
theorem mt_join {X : Cx} : MtR X "str.join" (rJoin X.K) := by
  intro pins s σ H x xs v us Q I rx rs h
  obtain ⟨sep, p, ts, rfl, rfl, hp, hok, q⟩ := h
  obtain ⟨t, rfl⟩ := rx
  obtain ⟨u, rfl, ru⟩ := Vals.one rs
  cases (show u = Value.ref p from ru)
  rcases hp with hp | hp
  · obtain ⟨its, rv, pl, _⟩ := I.list hp
    obtain ⟨l, h1, h2⟩ := strs_vals rv
    subst h1
    exact SC.join pl.isList h2 hok fun t' k => ⟨.str _, H, I.tok k, ⟨t', rfl⟩, q⟩
  · obtain ⟨its, rv, ⟨o, e, c, n, d⟩, _⟩ := I.tuple hp
    obtain ⟨l, h1, h2⟩ := strs_vals rv
    subst h1
    subst h2
    unfold JoinOk at hok
    rw [Bool.not_eq_true'] at hok
    exact call_meets F.slot_str_join (typeIs_str _ _ _) F.entry_str_join (F.args_str_join_2 _ _) (meets_str_join_tuple sep t p l hok)
      ⟨⟨o, n, e, c, d⟩, post_join l ⟨joinFit_length hok, fun t' k => ⟨.str _, H, I.tok k, ⟨t', rfl⟩, q⟩⟩⟩

/-! ### range(a, b, c) with a written c above 0 -/

/-! ### isinstance(x, T), T a built-in class -/
theorem call_isi {X : Cx} : CallR X (.builtin "isinstance") (fun xs H Q => ∃ x T t b, xs = [x, .ty T] ∧ TyOf X.K H x t ∧ PySem.W.kitOne X.K t (.type T) = some b ∧ Q (.bl b) H) := by
  intro pins s σ H xs us Q I r h
  obtain ⟨x, T, t, b, rfl, ty, e, q⟩ := h
  obtain ⟨u, v, rfl, r1, r2⟩ := Vals.two r
  cases (show v = Value.type T from r2)
  exact isinst_ok I r1 ty e fun tk => ⟨.bl b, H, I.tok tk, rfl, q⟩

/-! ### a dict of the module's top, keys texts -/
noncomputable def Tab (P : Program) (w : World) (K : PySem.W.Frag) (a : Addr) (D : List (Str × PyData)) : Prop := ∀ h : Heap, K.In h → StrTab P w h a (D.map fun p => (PyData.str p.1, p.2))
theorem tab_mk {P : Program} {w : World} {K : PySem.W.Frag} {a : Addr} {D : List (Str × PyData)} (e : PyProof.Rows.KTD.tabLook PyProof.Rows.KTD.flatLooks (fun b => K.lookup b) a D = true) (n : (D.map (·.1)).Nodup)
    (q : PyProof.Rows.KTD.hashesOf (fun b => K.lookup b) a = D.map fun p => (PySem.strKind P w).hash p.1) : Tab P w K a D := fun _ x => PySem.W.kt_tab_in P w x e n q
noncomputable def flatV? : PyData → Option V
  | .none => some .non
  | .bool b => some (.bl b)
  | .int i => some (.int i)
  | .str x => some (.str x)
  | _ => Option.none
theorem flat_rel {d : PyData} {v : V} {u : Value} (h : flatV? d = some v) (f : PyProof.V.Flat u d) : RelV v u := by
  cases d with
  | none => cases h; cases f {}; rfl
  | bool b => cases h; cases f {}; rfl
  | int i => cases h; exact f.int_inv
  | str x => cases h; exact f.str_inv
  | list _ => cases h
  | tuple _ => cases h
  | dict _ => cases h
noncomputable def rTab (a : Addr) (D : List (Str × PyData)) : R2 := fun x y H Q => ∃ k d v, x = .ref a ∧ y = .str k ∧ PySem.Spec.lookup (.str k) (D.map fun p => (PyData.str p.1, p.2)) = some d ∧ flatV? d = some v ∧ Q v H
theorem ix_tab {X : Cx} {a : Addr} {D : List (Str × PyData)} (T : Tab X.prog X.w X.K a D) : IxR X (rTab a D) := by
  intro value slice pins s σ H x y v u Q I rx ry h hs
  obtain ⟨k, d, z, rfl, rfl, hl, hf, q⟩ := h
  cases (show v = Value.ref a from rx)
  obtain ⟨t, rfl⟩ := ry
  obtain ⟨lo, kvs, hd, hfp⟩ := T _ I.kIn
  obtain ⟨w', hv, hfl⟩ := hfp.of_lookup PyProof.V.same_str hl
  refine subscriptTail_builtinR (x := w') hd.typeIs F.slot_dict_getitem.lookup ?_ hs
  exact wpAny_getItem_of (strKind_is X.prog X.w k t) hd.mapOf hv ⟨rfl, z, H, I.tok _, flat_rel hf hfl, q⟩
noncomputable def rInTab (a : Addr) (D : List (Str × PyData)) (neg : Bool) : R2 := fun x y H Q => ∃ k, x = .str k ∧ y = .ref a ∧ Q (.bl (if neg then !(PySem.Spec.lookup (.str k) (D.map fun p => (PyData.str p.1, p.2))).isSome else (PySem.Spec.lookup (.str k) (D.map fun p => (PyData.str p.1, p.2))).isSome)) H
theorem op_inTab {X : Cx} {a : Addr} {D : List (Str × PyData)} (T : Tab X.prog X.w X.K a D) : OpR X (compareOp .In) (rInTab a D false) := by
  intro pins s σ H x y v u Q I rx ry h
  obtain ⟨k, rfl, rfl, q⟩ := h
  cases (show u = Value.ref a from ry)
  obtain ⟨t, rfl⟩ := rx
  exact in_strTab (T _ I.kIn) ⟨.bl _, H, I.tok _, rfl, q⟩
theorem bt_len : bootBuiltins "len" = some (.builtin "len") := by decide +kernel
theorem bt_isinstance : bootBuiltins "isinstance" = some (.builtin "isinstance") := by decide +kernel
theorem bt_sum : bootBuiltins "sum" = some (.builtin "sum") := by decide +kernel
theorem bt_all : bootBuiltins "all" = some (.builtin "all") := by decide +kernel
theorem bt_int : bootBuiltins "int" = some (.type "int") := by decide +kernel
theorem bt_str : bootBuiltins "str" = some (.type "str") := by decide +kernel
theorem bt_bool : bootBuiltins "bool" = some (.type "bool") := by decide +kernel
theorem bt_list : bootBuiltins "list" = some (.type "list") := by decide +kernel
theorem bt_tuple : bootBuiltins "tuple" = some (.type "tuple") := by decide +kernel
theorem bt_dict : bootBuiltins "dict" = some (.type "dict") := by decide +kernel
end L2

set_option maxRecDepth 100000
namespace L2
open PySem PySem.Spec PyProof.Rows
/-! ### the rules once more, their judgements as structures: the elaborator then looks at nothing else -/
structure QE (X : Cx) (e : Expr) (t : TE) : Prop where
  h : PE X e t
structure QT (X : Cx) (e : Expr) (t : TT) : Prop where
  h : PT X e t
structure QW (X : Cx) (e : Expr) (t : TT) : Prop where
  h : PW X e t
structure QA (X : Cx) (es : List Expr) (t : TA) : Prop where
  h : PA X es t
structure QS (X : Cx) (s : Stmt) (t : TS) : Prop where
  h : PS X s t
structure QSs (X : Cx) (s : List Stmt) (t : TS) : Prop where
  h : PSs X s t
structure QG (X : Cx) (e : Expr) (t : TG) : Prop where
  h : PG X e t
structure QGs (X : Cx) (es : List Expr) (t : TGs) : Prop where
  h : PGs X es t
structure QI (X : Cx) (tg e : Expr) (t : TI) : Prop where
  h : PI X tg e t
structure QO (X : Cx) (e : Option Expr) (t : TO) : Prop where
  h : PO X e t
structure QIfs (X : Cx) (es : List Expr) (t : TT) : Prop where
  h : PIfs X es t
structure QOp (X : Cx) (f : Value → Value → Sem Value) (r : R2) : Prop where
  h : OpR X f r
structure QIx (X : Cx) (r : R2) : Prop where
  h : IxR X r
structure QSl (X : Cx) (r : V → Option Int → Option Int → Hp → VK → Prop) : Prop where
  h : SlR X r
structure QSet (X : Cx) (r : TSet) : Prop where
  h : PSet X r
structure QMt (X : Cx) (id : String) (r : V → List V → Hp → VK → Prop) : Prop where
  h : MtR X id r
structure QCall (X : Cx) (f : Value) (r : List V → Hp → VK → Prop) : Prop where
  h : CallR X f r
section
variable {X : Cx} {a b c e : Expr} {es : List Expr} {ta tb te : TE} {tA tB' : TT} {pos p : Pos} {x : Str}
theorem qe_var (i : Nat) (v : VarOk X.env.scope x) (hN : X.N[i]? = some x := by rfl) : QE X (.Name x pos) (tVar i) := ⟨pvx i v hN⟩
theorem qe_int {i j pos} : QE X (.Constant (.int i) j pos) (tC (.int i)) := ⟨pe_int⟩
theorem qe_bl {b j pos} : QE X (.Constant (.bool b) j pos) (tC (.bl b)) := ⟨pe_bl⟩
theorem qe_non {j pos} : QE X (.Constant .none j pos) (tC .non) := ⟨pe_non⟩
theorem qe_str {x j pos} : QE X (.Constant (.str x) j pos) (tC (.str x)) := ⟨pe_str⟩
theorem qe_glob {v : V} {u : Value} (hg : Gl X x) (hm : X.mg x = some u) (r : RelV v u) (hd : (x == ("__debug__" : Str)) = false) : QE X (.Name x pos) (tC v) := ⟨pe_glob hg hm r hd⟩
theorem qe_bltn {v : V} {u : Value} (hg : Gl X x) (hm : X.mg x = none) (hv : bootBuiltins x = some u) (r : RelV v u) (hn : x ≠ "__name__") (hd : (x == ("__debug__" : Str)) = false) : QE X (.Name x pos) (tC v) := ⟨pe_bltn hg hm hv r hn hd⟩
theorem qe_op {op : Operator} {r : R2} (ho : QOp X (binaryOp op) r) (ha : QE X a ta) (hb : QE X b tb) : QE X (.BinOp a op b pos) (tOp r ta tb) := ⟨pe_op ho.h ha.h hb.h⟩
theorem qe_cmp {op : CmpOp} {r : R2} (ho : QOp X (compareOp op) r) (ha : QE X a ta) (hb : QE X b tb) (hm : behindInMarks op b = false) : QE X (.Compare a [op] [b] pos) (tOp r ta tb) := ⟨pe_cmpR ho.h ha.h hb.h hm⟩
theorem qt_cmp {op : CmpOp} {r : R2} (ho : QOp X (compareOp op) r) (ha : QE X a ta) (hb : QE X b tb) (hm : behindInMarks op b = false) : QT X (.Compare a [op] [b] pos) (tTest (tOp r ta tb)) := ⟨pt_cmpR ho.h ha.h hb.h hm⟩
theorem qt_val (h : QE X e te) (he : ∀ whole, isTrue e X.env whole = (do let v ← whole; standAt e.pos; holding [v] (truthy v)) := by intro _; rfl) : QT X e (tB te) := ⟨pt_val h.h he⟩
theorem qt_truth (ha : QE X a ta) (he : ∀ whole, isTrue a X.env whole = (do let v ← whole; standAt a.pos; holding [v] (truthy v)) := by intro _; rfl) : QT X a (fun σ H Q => ta σ H fun x H1 => ∃ k, TruV X.K x H1 k ∧ Q k H1) := ⟨pt_truth ha.h he⟩
theorem qt_not (ha : QT X a tA) : QT X (.UnaryOp .Not a pos) (tNot tA) := ⟨pt_not ha.h⟩
theorem qe_not (ha : QE X a ta) : QE X (.UnaryOp .Not a pos) (tNotV ta) := ⟨pe_not ha.h⟩
theorem qw_and1 (ha : QT X a tA) : QW X (.BoolOp .And [a] pos) tA := ⟨pw_and1 ha.h⟩
theorem qw_or1 (ha : QT X a tA) : QW X (.BoolOp .Or [a] pos) tA := ⟨pw_or1 ha.h⟩
theorem qw_and {rest : List Expr} (ha : QT X a tA) (hb : QW X (.BoolOp .And (b :: rest) pos) tB') : QW X (.BoolOp .And (a :: b :: rest) pos) (tAnd tA tB') := ⟨pw_and ha.h hb.h⟩
theorem qw_or {rest : List Expr} (ha : QT X a tA) (hb : QW X (.BoolOp .Or (b :: rest) pos) tB') : QW X (.BoolOp .Or (a :: b :: rest) pos) (tOr tA tB') := ⟨pw_or ha.h hb.h⟩
theorem qt_w (h : QW X e tA) : QT X e tA := ⟨h.h.pt⟩
theorem qe_one {op} (h : QE X a ta) : QE X (.BoolOp op [a] pos) ta := ⟨pe_one h.h⟩
theorem qe_and {rest : List Expr} (ha : QE X a ta) (hb : QE X (.BoolOp .And (b :: rest) pos) tb) : QE X (.BoolOp .And (a :: b :: rest) pos) (tAndV ta tb) := ⟨pe_and ha.h hb.h⟩
theorem qa_nil : QA X [] tNil := ⟨pa_nil⟩
theorem qa_cons {t : TA} (ha : QE X e te) (hr : QA X es t) (hs : starEach (e :: es) X.env = (false, eval e X.env) :: starEach es X.env := by rfl) : QA X (e :: es) (tCons te t) := ⟨pa_cons ha.h hr.h hs⟩
theorem qe_tup {x1} {t : TA} (h : QA X es t) : QE X (.Tuple es x1 pos) (tTup t) := ⟨pe_tup h.h⟩
theorem qe_lst {t : TA} (h : QA X es t) : QE X (.List es pos) (tLst t) := ⟨pe_lst h.h⟩
theorem qe_ix {r : R2} (hr : QIx X r) (ha : QE X a ta) (hb : QE X b tb) (hs : PlainIx b := by intro _ _; rfl) : QE X (.Subscript a b pos) (tOp r ta tb) := ⟨pe_ix hr.h ha.h hb.h hs⟩
theorem qo_none : QO X none tNoPart := ⟨po_none⟩
theorem qo_some (h : QE X e te) : QO X (some e) (tPart te) := ⟨po_some h.h⟩
theorem qe_slice {r : V → Option Int → Option Int → Hp → VK → Prop} {lo hi : Option Expr} {tl th : TO} {p2 : Pos} (hr : QSl X r) (he : QE X e te) (hl : QO X lo tl) (hu : QO X hi th) : QE X (.Subscript e (.Slice lo hi none p2) pos) (tSl r te tl th) := ⟨pe_slice hr.h he.h hl.h hu.h⟩
theorem qe_call {CX : CXT} {k : Nat} {f : Addr} {fd : FuncData} {ps : List Str} {sp : Sp} {dvs : List V} {ds : List Value} {E : XK} {t : TA} (F : FnOk X.prog X.w X.K X.mg X.base CX k f fd ps sp) (hr : Room k X.A) (hg : Gl X x) (hm : X.mg x = some (.ref f)) (hk : PySem.W.keepIn X.K (.ref f) = true) (hb : Binds X.K fd ps ds) (hd : Vals dvs ds) (hx : Passes CX X E)
    (ha : QA X (e :: es) t) (hdb : (x == ("__debug__" : Str)) = false) (he : starEach (e :: es) X.env = (false, eval e X.env) :: starEach es X.env := by rfl) (hpl : (backTo pos (starEach es X.env)).any (·.1) = false := by rfl) :
    QE X (.Call (.Name x p) (e :: es) [] pos) (tCall sp dvs E t) := ⟨pe_call F hr hg hm hk hb hd hx ha.h hdb he hpl⟩
theorem qe_callB {id : String} {r : List V → Hp → VK → Prop} {t : TA} (hc : QCall X (.builtin id) r) (hg : Gl X x) (hm : X.mg x = none) (hv : bootBuiltins x = some (.builtin id)) (ha : QA X (e :: es) t) (hn : x ≠ "__name__") (hdb : (x == ("__debug__" : Str)) = false)
    (he : starEach (e :: es) X.env = (false, eval e X.env) :: starEach es X.env := by rfl) (hpl : (backTo pos (starEach es X.env)).any (·.1) = false := by rfl) : QE X (.Call (.Name x p) (e :: es) [] pos) (tCB r t) := ⟨pe_callB hc.h hg hm hv ha.h hn hdb he hpl⟩
theorem qe_callTy {T : String} {r : List V → Hp → VK → Prop} {t : TA} (hc : QCall X (.type T) r) (hg : Gl X x) (hm : X.mg x = none) (hv : bootBuiltins x = some (.type T)) (ha : QA X (e :: es) t) (hn : x ≠ "__name__") (hdb : (x == ("__debug__" : Str)) = false)
    (he : starEach (e :: es) X.env = (false, eval e X.env) :: starEach es X.env := by rfl) (hpl : (backTo pos (starEach es X.env)).any (·.1) = false := by rfl) : QE X (.Call (.Name x p) (e :: es) [] pos) (tCB r t) := ⟨pe_callTy hc.h hg hm hv ha.h hn hdb he hpl⟩
theorem qe_bm0 {o : Expr} {to : TE} {name : Str} {apos cpos : Pos} {T id : String} {r : V → List V → Hp → VK → Prop} (pa : PlainAttrs T) (slot : Slot T name id) (hty : typeOf (.builtin id) = pure (.type "method_descriptor")) (hm : QMt X id r) (ho : QE X o to)
    (hbase : attributeBase o name X.env (eval o X.env) = eval o X.env := by rfl) (hline : (apos.endLine == cpos.line) = true := by rfl) : QE X (.Call (.Attribute o name apos) [] [] cpos) (tBM0 X.K T r to) := ⟨pe_bm0 pa slot hty hm.h ho.h hbase hline⟩
theorem qe_bm {o : Expr} {to : TE} {name : Str} {apos cpos : Pos} {T id : String} {r : V → List V → Hp → VK → Prop} {t : TA} (pa : PlainAttrs T) (slot : Slot T name id) (hty : typeOf (.builtin id) = pure (.type "method_descriptor")) (hm : QMt X id r) (ho : QE X o to) (ha : QA X (e :: es) t)
    (hbase : attributeBase o name X.env (eval o X.env) = eval o X.env := by rfl)
    (hfew : ((backTo cpos (starEach (e :: es) X.env)).all (fun x => !x.1) && (backToKw cpos (keywordEach [] X.env)).all (fun x => x.1.isSome)
      && decide ((e :: es).length + ([] : List Keyword).length + (if ([] : List Keyword).isEmpty then 0 else 1) < 30)) = true := by rfl)
    (hline : (apos.endLine == cpos.line) = true := by rfl) (hs : starEach (e :: es) X.env = (false, eval e X.env) :: starEach es X.env := by rfl) (hplain : (backTo cpos (starEach es X.env)).any (·.1) = false := by rfl) :
    QE X (.Call (.Attribute o name apos) (e :: es) [] cpos) (tBM X.K T r to t) := ⟨pe_bm pa slot hty hm.h ho.h ha.h hbase hfew hline hs hplain⟩
theorem qe_comp {n : Nat} {fr : List Nat} {N : List Str} {sc : Scope} {elt tg iter : Expr} {ifs : List Expr} {wi : TI} {g : TG} {tc : TT} (hc : X.calm = true) (S : CScope X n fr N sc) (hit : QI X tg iter wi)
    (hg : ∀ pins C s₀ H₀ fp, QG (cxComp X N sc pins C s₀ H₀ fp) tg g) (hi : ∀ pins C s₀ H₀ fp, QIfs (cxComp X N sc pins C s₀ H₀ fp) ifs tc) (he : ∀ pins C s₀ H₀ fp, QE (cxComp X N sc pins C s₀ H₀ fp) elt te)
    (hs : ∀ x, foldedSetIterable iter X.env x = pure x := by intro _; rfl) : QE X (.ListComp elt [⟨tg, iter, ifs, 0⟩] sc pos) (tComp wi n fr g tc te) :=
  ⟨pe_comp hc S hit.h (fun a b c d e => (hg a b c d e).h) (fun a b c d e => (hi a b c d e).h) (fun a b c d e' => (he a b c d e').h) hs⟩
theorem qi_nil : QIfs X [] tTrue := ⟨pifs_nil⟩
theorem qi_one {t : TT} (h : QT X c t) : QIfs X [c] t := ⟨pifs_one h.h⟩
theorem qi_list {tg l : Expr} {tl : TE} (hl : QE X l tl) : QI X tg l (iList X.K tl) := ⟨pi_list hl.h⟩
theorem qi_tup {tg l : Expr} {tl : TE} (hl : QE X l tl) : QI X tg l (iTup X.K tl) := ⟨pi_tup hl.h⟩
theorem qi_range1 {tg : Expr} {t : TA} (hg : Gl X "range") (hm : X.mg "range" = none) (ha : QA X [a] t) (hs : starEach [a] X.env = [(false, eval a X.env)] := by rfl) : QI X tg (.Call (.Name "range" p) [a] [] pos) (iRng1 t) := ⟨pi_range1 hg hm ha.h hs⟩
theorem qg_name {i : Nat} (hN : X.N.Nodup) (hi : X.N[i]? = some x) (hx : Loc X.env.scope x) (hf : X.fn x = true ∨ X.env.scope.names.lookup x = some .local := by first | exact .inl rfl | exact .inr rfl | assumption) : QG X (.Name x pos) (gName i) := ⟨pg_name hN hi hx hf⟩
theorem qgx {i : Nat} (hN : X.N.Nodup) (hx : X.env.scope.names.lookup x = some .local) (hi : X.N[i]? = some x := by rfl) : QG X (.Name x pos) (gName i) := ⟨pgx hN hx hi⟩
theorem qgs_nil : QGs X [] gNil := ⟨pgs_nil⟩
theorem qgs_cons {t : TG} {u : TGs} (h1 : QG X e t) (h2 : QGs X es u) (hs : (assignEach (e :: es) X.env).map (·.2) = assign e X.env :: (assignEach es X.env).map (·.2) := by rfl) : QGs X (e :: es) (gCons t u) := ⟨pgs_cons h1.h h2.h hs⟩
theorem qg_tup {k n : Nat} {t : TGs} (hc : X.calm = true) (h : QGs X es t) (hn : (assignEach es X.env).length = n := by rfl) (hst : (assignEach es X.env).findIdx? (·.1) = none := by rfl) : QG X (.Tuple es k pos) (gTup X.K n t) := ⟨pg_tup hc h.h hn hst⟩
theorem qg_sub {o i : Expr} {to ti : TE} {t : TSet} (ho : QE X o to) (hi : QE X i ti) (hs : QSet X t)
    (ha : ∀ v, assign (.Subscript o i pos) X.env v = (do
      let ov ← holding [v] (eval o X.env)
      let iv ← holding [v, ov] (eval i X.env)
      standAt pos
      holding [v, ov, iv] (setItem ov iv v)
      release [v, ov, iv] []) := by intro _; rfl) : QG X (.Subscript o i pos) (gSub to ti t) := ⟨pg_sub ho.h hi.h hs.h ha⟩
theorem qs_asg {tg : Expr} {g : TG} (he : QE X e te) (hg : QG X tg g) (hs : swapsWithSole [tg] e pos.line X.env = pure false := by rfl) (hw : swappedStores [tg] e X.env = pure none := by rfl)
    (h1 : (assignEach [tg] X.env).map (·.2) = [assign tg X.env] := by rfl) : QS X (.Assign [tg] e pos) (tAsg te g) := ⟨ps_asg he.h hg.h hs hw h1⟩
theorem qs_set {i : Nat} {pos' : Pos} (hN : X.N.Nodup) (hi : X.N[i]? = some x) (hx : Loc X.env.scope x) (he : QE X e te) (hs : swapsWith e (some (.Name x pos')) pos.line X.env = pure false := by rfl) (hf : X.fn x = true ∨ X.env.scope.names.lookup x = some .local := by first | exact .inl rfl | exact .inr rfl | assumption) :
    QS X (.Assign [.Name x pos'] e pos) (tAsg te (gName i)) := ⟨ps_set hN hi hx he.h hs hf⟩
theorem qs_dput {o i v : Expr} {td ty tv : TE} {pos' : Pos} (hu : X.A.units + 1 < cLine) (ho : QE X o td) (hi : QE X i ty) (hv : QE X v tv) (hs : swapsWith v (some (.Subscript o i pos')) pos.line X.env = pure false := by rfl) : QS X (.Assign [.Subscript o i pos'] v pos) (sDPut td ty tv) := ⟨ps_dput hu ho.h hi.h hv.h hs⟩
theorem qs_expr (he : QE X e te) (hs : swapsWith e none pos.line X.env = pure false := by rfl) : QS X (.Expr e pos) (tDrop te) := ⟨ps_expr he.h hs⟩
theorem qs_ret (he : QE X e te) : QS X (.Return (some e) pos) (tRet te) := ⟨ps_ret he.h⟩
theorem qs_if {s1 s2 : List Stmt} {t u : TS} (hc : QT X c tA) (ha : QSs X s1 t) (hb : QSs X s2 u) : QS X (.If c s1 s2 pos) (tIfS tA t u) := ⟨ps_if hc.h ha.h hb.h⟩
theorem qs_while {body : List Stmt} {tb : TS} (hp : PassesOwn (model X.prog X.w) X.A X.env X.xe) (hc : QT X c tA) (hb : QSs X body tb) : QS X (.While c body [] pos) (tWhile tA tb) := ⟨ps_while hp hc.h hb.h⟩
theorem qs_for {tg iter : Expr} {body : List Stmt} {wi : TI} {g : TG} {tb : TS} (hp : PassesOwn (model X.prog X.w) X.A X.env X.xe) (hc : X.calm = true) (hi : QI X tg iter wi) (hg : QG X tg g) (hb : QSs X body tb)
    (hs : ∀ x, foldedSetIterable iter X.env x = pure x := by intro _; rfl) : QS X (.For tg iter body [] pos) (tFor wi g tb) := ⟨ps_for hp hc hi.h hg.h hb.h hs⟩
theorem qss_nil : QSs X [] tNext := ⟨pss_nil⟩
theorem qss_cons {s : Stmt} {rest : List Stmt} {t u : TS} (h1 : QS X s t) (h2 : QSs X rest u) : QSs X (s :: rest) (tSeq t u) := ⟨pss_cons h1.h h2.h⟩
theorem qss_one {s : Stmt} {t : TS} (h1 : QS X s t) : QSs X [s] t := ⟨pss_one h1.h⟩
theorem qop_add : QOp X (binaryOp .Add) (rI0 fun i j => .int (i + j)) := ⟨op_add⟩
theorem qop_sub : QOp X (binaryOp .Sub) (rI0 fun i j => .int (i - j)) := ⟨op_sub⟩
theorem qop_mul : QOp X (binaryOp .Mult) (rI CMul fun i j => .int (i * j)) := ⟨op_mul⟩
theorem qop_mod : QOp X (binaryOp .Mod) (rI (fun _ j => 0 < j) fun i j => .int (i % j)) := ⟨op_mod⟩
theorem qop_fdiv : QOp X (binaryOp .FloorDiv) (rI CDivB fun i j => .int (i / j)) := ⟨op_fdivB⟩
theorem qop_pow : QOp X (binaryOp .Pow) (rI CPow fun i j => .int (i ^ j.toNat)) := ⟨op_pow⟩
theorem qop_cat : QOp X (binaryOp .Add) rCat := ⟨op_cat⟩
theorem qop_eq : QOp X (compareOp .Eq) rEq := ⟨op_eq⟩
theorem qop_ne : QOp X (compareOp .NotEq) rNe := ⟨op_ne⟩
theorem qop_lt : QOp X (compareOp .Lt) (rI0 fun i j => .bl (decide (i < j))) := ⟨op_lt⟩
theorem qop_le : QOp X (compareOp .LtE) (rI0 fun i j => .bl (decide (i ≤ j))) := ⟨op_le⟩
theorem qop_gt : QOp X (compareOp .Gt) (rI0 fun i j => .bl (decide (j < i))) := ⟨op_gt⟩
theorem qop_isN : QOp X (compareOp .Is) (fun x y H Q => y = .non ∧ Q (.bl (decide (x = .non))) H) := ⟨op_isN⟩
theorem qop_eqD (hu : X.A.units + 64 < cLine) : QOp X (compareOp .Eq) (rEqD X.K false) := ⟨op_eqD hu⟩
theorem qop_in_seq : QOp X (compareOp .In) (rIn X.K false) := ⟨op_in_seq⟩
theorem qop_notIn_seq : QOp X (compareOp .NotIn) (rIn X.K true) := ⟨op_notIn_seq⟩
theorem qop_inTab {a : Addr} {D : List (Str × PyData)} (T : Tab X.prog X.w X.K a D) : QOp X (compareOp .In) (rInTab a D false) := ⟨op_inTab T⟩
theorem qix_list : QIx X (rIxL X.K) := ⟨ix_list⟩
theorem qix_tup : QIx X (rIxT X.K) := ⟨ix_tup⟩
theorem qix_str : QIx X rIxS := ⟨ix_str⟩
theorem qix_tab {a : Addr} {D : List (Str × PyData)} (T : Tab X.prog X.w X.K a D) : QIx X (rTab a D) := ⟨ix_tab T⟩
theorem qsl_list : QSl X (rSlL X.K) := ⟨sl_list⟩
theorem qsl_tup : QSl X (rSlT X.K) := ⟨sl_tup⟩
theorem qset_list : QSet X rSetL := ⟨set_list⟩
theorem qmt_append : QMt X "list.append" rAppend := ⟨mt_append⟩
theorem qmt_pop : QMt X "list.pop" rPop := ⟨mt_pop⟩
theorem qmt_join : QMt X "str.join" (rJoin X.K) := ⟨mt_join⟩
theorem qc_len_seq : QCall X (.builtin "len") (fun xs H Q => ∃ p ys, xs = [.ref p] ∧ (SqL X.K H p ys ∨ SqT X.K H p ys) ∧ Q (.int ys.length) H) := ⟨call_len_seq⟩
theorem qc_len_str : QCall X (.builtin "len") (fun xs H Q => ∃ z, xs = [.str z] ∧ z.length ≤ sizeLine ∧ Q (.int z.length) H) := ⟨call_len_str⟩
theorem qc_isi : QCall X (.builtin "isinstance") (fun xs H Q => ∃ x T t b, xs = [x, .ty T] ∧ TyOf X.K H x t ∧ PySem.W.kitOne X.K t (.type T) = some b ∧ Q (.bl b) H) := ⟨call_isi⟩
theorem qc_intB : QCall X (.type "int") (fun xs H Q => ∃ k, xs = [.bl k] ∧ Q (.int (if k then 1 else 0)) H) := ⟨fun pins s σ H xs us Q I r h => call_int1 pins s σ H xs us Q I r (.inr h)⟩
theorem qc_list_of : QCall X (.type "list") (fun xs H Q => ∃ p ys, xs = [.ref p] ∧ (SqL X.K H p ys ∨ SqT X.K H p ys) ∧ ∀ l, H l = none → Q (.ref l) (upd H l (.lst ys))) := ⟨call_list_of⟩
theorem qc_tuple_of : QCall X (.type "tuple") (fun xs H Q => ∃ p ys, xs = [.ref p] ∧ SqL X.K H p ys ∧ ∀ l, H l = none → Q (.ref l) (upd H l (.tup ys))) := ⟨fun pins s σ H xs us Q I r h => call_tuple_of pins s σ H xs us Q I r (let ⟨p, ys, e, hs, q⟩ := h; ⟨p, ys, e, .inl ⟨hs, q⟩⟩)⟩
theorem nomarkQ (b : Expr) {op : CmpOp} (h : op ≠ .In := by decide) (h2 : op ≠ .NotIn := by decide) : behindInMarks op b = false := nomark b h h2
/-! ### .. with the written part named (for a comprehension's block) -/
theorem qix_tupK {K : PySem.W.Frag} (e : X.K = K) : QIx X (rIxT K) := e ▸ qix_tup
end
end L2

set_option maxRecDepth 100000
namespace L2
open PySem PySem.Spec PyProof.Rows

/-! ### the signs of a text, walked -/
noncomputable def Its (x : Str) : It := ⟨fun i _ => i < x.cps.size, fun i H v H' => H' = H ∧ ∃ c, x.cps[i]? = some c ∧ v = .str ⟨#[c]⟩, fun i _ => x.cps.size ≤ i⟩
theorem turn_str {P : Program} {w : World} {K : PySem.W.Frag} {tg : Expr} (it : Addr) (x : Str) (t : Tok) : Turn P w K tg (Its x) [it] it (fun i h => h.IsStrIter it (strIterType x) x t i) where
  mem := by simp
  obj := fun i h st b hb => by
    have e : b = it := by simpa using hb
    subst e
    obtain ⟨o, e, c, d⟩ := st
    exact ⟨o, e, fun v z => by rw [d] at z; cases z⟩
  keep := fun i h h' st k => let ⟨o, ho, r⟩ := st; ⟨o, k it (by simp) o ho, r⟩
  item := by
    intro X hP hw hK hc i pins s σ H E I hf st hg
    subst hP hw hK
    obtain ⟨f0, f1, f2, f3, f4, f5⟩ := hf it (by simp)
    have fin : ∀ (v : Value) (h' : Heap) (tk : Nat), SignAt x i v → h'.IsStrIter it (strIterType x) x t (i + 1) → (∀ b o, b ∉ [it] → s.heap.get? b = some o → h'.get? b = some o) →
        ∃ u, some v = some u ∧ wpAny (model X.prog X.w) X.A (letOwnedTupleGo tg (.ref it) u) (fun _ s2 => ∃ y H', Inv X pins σ H' s2 ∧ RelV y u ∧ (Its x).yld i H y H' ∧ s2.heap.IsStrIter it (strIterType x) x t (i + 1) ∧ ∀ b ∈ [it], H' b = none) E { s with heap := h', toks := tk } := by
      intro v h' tk hv st' kk
      obtain ⟨c, u, hx, rfl⟩ := hv
      have I1 : Inv X pins σ H { s with heap := h', toks := tk } := I.turned (fun b o hb e => kk b o (by simpa using hb) e) f0 f1 f3 f4 f5
      obtain ⟨o, e, cc, d⟩ := id st'
      refine ⟨_, rfl, go_of (s := { s with heap := h', toks := tk }) (n := strIterType x) e cc d ?_ ⟨.str ⟨#[c]⟩, H, I1, ⟨u, rfl⟩, ⟨rfl, c, hx, rfl⟩, st', fun b hb => (hf b hb).1⟩⟩
      unfold strIterType
      split <;> decide
    cases ha : x.cps.all (· < 128) with
    | true =>
      have et : strIterType x = "str_ascii_iterator" := by simp [strIterType, ha]
      rw [et] at st fin ⊢
      exact (Walks.strAscii (prog := X.prog) (w := X.w) (I.ok.hd hc) it x t).item i s _ _ hg st fun v h' tk hv st' kk => fin v h' tk hv st' kk
    | false =>
      have et : strIterType x = "str_iterator" := by simp [strIterType, ha]
      rw [et] at st fin ⊢
      exact (Walks.strWide (prog := X.prog) (w := X.w) (I.ok.hd hc) it x t).item i s _ _ hg st fun v h' tk hv st' kk => fin v h' tk hv st' kk
  done := by
    intro X hP hw hK hc i pins s σ H E I hf st hg
    subst hP hw hK
    obtain ⟨f0, f1, f2, f3, f4, f5⟩ := hf it (by simp)
    have hg' : x.cps.size ≤ i := hg
    have hn : x.cps[i]? = none := by simpa using hg'
    cases ha : x.cps.all (· < 128) with
    | true =>
      have et : strIterType x = "str_ascii_iterator" := by simp [strIterType, ha]
      rw [et] at st
      exact wpAny_pyNext_ascii_end (I.ok.hd hc) st hn fun h' eb => ⟨rfl, I.turned (t' := s.toks) (fun b o hb e => eb b o hb e) f0 f1 f3 f4 f5⟩
    | false =>
      have et : strIterType x = "str_iterator" := by simp [strIterType, ha]
      rw [et] at st
      exact wpAny_pyNext_wide_end (I.ok.hd hc) st hn fun h' eb => ⟨rfl, I.turned (t' := s.toks) (fun b o hb e => eb b o hb e) f0 f1 f3 f4 f5⟩
  self := fun A i s Q E st h => by
    cases ha : x.cps.all (· < 128) with
    | true =>
      have et : strIterType x = "str_ascii_iterator" := by simp [strIterType, ha]
      rw [et] at st
      exact wpAny_pyIter_striter_ascii st h
    | false =>
      have et : strIterType x = "str_iterator" := by simp [strIterType, ha]
      rw [et] at st
      exact wpAny_pyIter_striter_wide st h
noncomputable def iStr (tl : TE) : TI := fun σ H R => tl σ H fun v H1 => ∃ x, v = .str x ∧ R (Its x) H1
theorem pi_str {X : Cx} {tg l : Expr} {tl : TE} (hl : PE X l tl) : PI X tg l (iStr tl) := by
  intro pins s σ H R I h
  refine thn (hl pins s σ H _ I h) fun v s1 ⟨y, H1, I1, r1, q1⟩ => ?_
  obtain ⟨x, e, q⟩ := q1
  subst e
  obtain ⟨t, rfl⟩ := r1
  refine wpAny_pyIter_strU ?_
  refine ⟨s1.heap.objs.size, [s1.heap.objs.size], _, _, H1, rfl, I1.kept (t' := s1.toks) fun b o e => Heap.get?_push_of_some _ e, turn_str _ x t, ⟨_, Heap.get?_push_size _ rfl, rfl, rfl⟩, fun b hb => ?_, q⟩
  have e : b = s1.heap.objs.size := by simpa using hb
  subst e
  exact I1.fpOk (Nat.le_refl _) (I1.hok.fresh (Nat.le_refl _))
theorem comp_str {x : Str} {g : TG} {tc : TT} {te : TE} {σ : L2.St} {H : Hp} {D : Addr} {Q : VK} (Pv : Nat → L2.St → Hp → Prop) (h0 : Pv 0 σ (upd H D (.lst [])))
    (hs : ∀ i c σ' H', x.cps[i]? = some c → Pv i σ' H' → g (.str ⟨#[c]⟩) σ' H' fun σ3 H3 => tc σ3 H3 fun b H4 =>
      if b = true then te σ3 H4 fun y H5 => ∃ ys, H5 D = some (.lst ys) ∧ ys.length < sizeLine ∧ Pv (i + 1) σ3 (upd H5 D (.lst (ys ++ [y]))) else Pv (i + 1) σ3 H4) (hd : ∀ σ' H', Pv x.cps.size σ' H' → Q (.ref D) H') :
    CompW (Its x) g tc te D σ (upd H D (.lst [])) Q := by
  refine ⟨fun i m σ H => m = x.cps.size - i ∧ i ≤ x.cps.size ∧ Pv i σ H, ⟨x.cps.size, by simp, Nat.zero_le _, h0⟩, ?_⟩
  rintro i m σ H ⟨rfl, hi, p⟩
  by_cases hlt : i < x.cps.size
  · refine .inr ⟨hlt, Pv (i + 1), fun σ' H' p' => ⟨x.cps.size - (i + 1), by omega, rfl, hlt, p'⟩, fun y H' z => ?_⟩
    obtain ⟨e, c, hc, rfl⟩ := z
    subst e
    exact hs i c σ _ hc p
  · have e : i = x.cps.size := by omega
    subst e
    exact .inl ⟨Nat.le_refl _, hd σ H p⟩

/-! ### all, sum -/
theorem call_allB {X : Cx} (hc : X.calm = true) : CallR X (.builtin "all") (fun xs H Q => ∃ (p : Addr) (bs : List Bool), xs = [V.ref p] ∧ SqL X.K H p (bs.map V.bl) ∧ Q (.bl (bs.all id)) H) := by
  intro pins s σ H xs us Q I r h
  obtain ⟨p, bs, rfl, hp, q⟩ := h
  obtain ⟨u, rfl, ru⟩ := Vals.one r
  cases (show u = Value.ref p from ru)
  obtain ⟨its, rv, pl, hz⟩ := I.list hp
  have hlt : p < s.heap.objs.size := by obtain ⟨o, n, e, _⟩ := pl; exact Heap.lt_size e
  have hlen : its.length = bs.length := by rw [← rv.length, List.length_map]
  refine call_all_walk (wpAny_pyIter_list pl.isList ?_)
  refine ⟨s.heap.objs.size, _, _, its.toArray.size, (fun i v => its.toArray[i]? = some v), _, (fun i => bs.getD i false), rfl, Walks.list (A := X.A.in1) (I.ok.hd hc) s.heap.objs.size p (Nat.ne_of_lt hlt) its.toArray, ⟨⟨_, Heap.get?_push_size _ rfl, rfl, rfl⟩, pl.isList.push _⟩, ?_, ?_⟩
  · intro i v s' Q' E' hv hq
    have hi : i < bs.length := by
      rw [← hlen]
      have := (Array.getElem?_eq_some_iff.mp hv).1
      simpa using this
    obtain ⟨u, hu, ru⟩ := rv.get (i := i) (x := V.bl bs[i]) (by rw [List.getElem?_map, List.getElem?_eq_getElem hi]; rfl)
    have hv' : its[i]? = some v := by simpa using hv
    rw [hu] at hv'
    cases hv'
    cases (show v = Value.bool _ from ru)
    refine wpAny_truthy_bool ?_
    have e : bs.getD i false = bs[i] := by rw [List.getD_eq_getElem?_getD, List.getElem?_eq_getElem hi]; rfl
    have hq' : Q' (bs.getD i false) s' := hq
    rw [e] at hq'
    exact hq'
  · intro h' tk hk
    have e : (List.range its.toArray.size).all (fun i => bs.getD i false) = bs.all id := by
      rw [List.size_toArray, hlen]
      rw [Bool.eq_iff_iff, List.all_eq_true, List.all_eq_true]
      constructor
      · intro h b hb
        obtain ⟨i, hi, rfl⟩ := List.mem_iff_getElem.mp hb
        have := h i (List.mem_range.mpr hi)
        rw [List.getD_eq_getElem?_getD, List.getElem?_eq_getElem hi] at this
        exact this
      · intro h i hi
        have hi' := List.mem_range.mp hi
        rw [List.getD_eq_getElem?_getD, List.getElem?_eq_getElem hi']
        exact h _ (List.getElem_mem hi')
    rw [e]
    refine ⟨.bl _, H, I.kept (t' := tk) fun b o eb => hk b o ?_ (Heap.get?_push_of_some _ eb), rfl, q⟩
    intro z
    have : b = s.heap.objs.size := by simpa using z
    exact absurd (Heap.lt_size eb) (by rw [this]; exact Nat.lt_irrefl _)
theorem call_sumL {X : Cx} (hc : X.calm = true) : CallR X (.builtin "sum") (fun xs H Q => ∃ (p : Addr) (ns : List Int), xs = [V.ref p] ∧ SqL X.K H p (ns.map V.int) ∧ PySem.SumFits ns ∧ Q (.int ns.sum) H) := by
  intro pins s σ H xs us Q I r h
  obtain ⟨p, ns, rfl, hp, hf, q⟩ := h
  obtain ⟨u, rfl, ru⟩ := Vals.one r
  cases (show u = Value.ref p from ru)
  obtain ⟨its, rv, pl, hz⟩ := I.list hp
  have hi := intsAre_of rv
  have hall := hi.allInts
  have hnum : numsOf its.toArray.toList = ns := by rw [show its.toArray.toList = its from rfl, hi.numsOf]
  have hl := pl.isList
  obtain ⟨xs, ex⟩ := hall.items
  rw [ex] at hl hnum
  rw [nums_intItems] at hnum
  subst hnum
  refine sum_intList (I.ok.hd hc) hl (fun j hj => ?_) fun h' tk t' hk => ?_
  · rw [numAt_eq, preSum_eq]; exact hf j (by simpa using hj)
  · rw [preSum_eq, List.take_of_length_le (by simp)]
    exact ⟨.int _, H, I.kept (t' := tk) hk, ⟨t', rfl⟩, q⟩

/-! ### a tuple, n times -/
theorem noFill_tuple_mul : fillsNumberSlot (.type "tuple") "mul" = pure false :=
  PySem.fillsNumberSlot_seq (id := "tuple.__mul__") (r := some (.builtin "tuple.__rmul__")) F.slot_tuple_mul.lookup (by decide +kernel) F.slot_tuple_rmul.lookup (by decide +kernel)
theorem repeat_tuple : seqRepeat? (.type "tuple") = pure (some (.builtin "tuple.__mul__")) := by
  unfold seqRepeat?
  rw [PySem.seqSlot_of (T := "tuple") (name := "__mul__") (id := "tuple.__mul__") F.slot_tuple_mul.lookup (by decide +kernel), PySem.seqSlot_of (T := "tuple") (name := "__rmul__") (id := "tuple.__rmul__") F.slot_tuple_rmul.lookup (by decide +kernel)]
  rfl
theorem rmul_int_tuple (a : Int) (t : Tok) (l : Addr) (items : Array Value) (n : Nat) (dd : Option Addr) (sl : Array (Option Value)) :
    Meets (Builtin.«int.__rmul__» ⟨[.int a t, .ref l], []⟩) (fun _ R s => s.heap.get? l = some { cls := .type "tuple", dict := dd, data := .seq items n, slots := sl } ∧ R (.ok (.ret Value.notImplemented)) s) :=
  .of_wp fun prog w A R s h => by obtain ⟨hp, g, d, tk, os⟩ := s; obtain ⟨hl, h⟩ := h; wp_walk; exact ⟨_, rfl, h⟩
theorem tuple_mul0 (l : Addr) (items : Array Value) (n : Nat) (dd : Option Addr) (sl : Array (Option Value)) (k : Int) (t : Tok) (hk : k ≤ 0) (hk2 : -(2 ^ 63) ≤ k) (hne : items.isEmpty = false) :
    Meets (Builtin.«tuple.__mul__» ⟨[.ref l, .int k t], []⟩) (fun _ R s => s.heap.get? l = some { cls := .type "tuple", dict := dd, data := .seq items n, slots := sl } ∧ R (.ok (.ret (Value.ref s.heap.objs.size))) { s with heap := s.heap.push { cls := Value.type "tuple", data := Data.seq #[] }, toks := s.toks }) :=
  .of_wp fun prog w A R s h => by
    obtain ⟨hp, g, d, tk, os⟩ := s
    obtain ⟨hl, h⟩ := h
    have f1 := AutoSeq1.idx_int
    have c1 : ¬ (decide (k < -(2 ^ 63)) || decide (k ≥ 2 ^ 63)) = true := by simp; omega
    have c2 : ¬ (items.isEmpty || k == 1) = true := by simp [hne]; omega
    have c3 : (decide (k ≤ 0) || items.isEmpty) = true := by simp [hk]
    wp_walk using wpAny_loadPart' hl
    rw [if_neg c1]
    wp_walk using wpAny_loadPart' hl
    try rw [if_neg c2]
    try wp_walk using wpAny_loadPart' hl
    try rw [if_pos c3]
    try wp_walk using wpAny_loadPart' hl
    all_goals exact ⟨_, rfl, h⟩
theorem tuple_mul1 (l : Addr) (items : Array Value) (n : Nat) (dd : Option Addr) (sl : Array (Option Value)) (t : Tok) :
    Meets (Builtin.«tuple.__mul__» ⟨[.ref l, .int 1 t], []⟩) (fun _ R s => s.heap.get? l = some { cls := .type "tuple", dict := dd, data := .seq items n, slots := sl } ∧ R (.ok (.ret (Value.ref l))) { s with heap := s.heap, toks := s.toks }) :=
  .of_wp fun prog w A R s h => by
    obtain ⟨hp, g, d, tk, os⟩ := s
    obtain ⟨hl, h⟩ := h
    have f1 := AutoSeq1.idx_int
    have c1 : ¬ (decide ((1 : Int) < -(2 ^ 63)) || decide ((1 : Int) ≥ 2 ^ 63)) = true := by decide
    have c2 : (items.isEmpty || (1 : Int) == 1) = true := by simp
    wp_walk using wpAny_loadPart' hl
    try rw [if_neg c1]
    try wp_walk using wpAny_loadPart' hl
    try rw [if_pos c2]
    try wp_walk using wpAny_loadPart' hl
    all_goals exact ⟨_, rfl, h⟩
theorem tuple_mulN (l : Addr) (items : Array Value) (n : Nat) (dd : Option Addr) (sl : Array (Option Value)) (k : Int) (t : Tok) (hk : 2 ≤ k) (hk2 : k < 2 ^ 63) (hne : items.isEmpty = false) (hz : items.size * k.toNat ≤ sizeLine)
    (hz2 : ((List.replicate k.toNat items).foldl (fun x1 x2 => x1 ++ x2) #[]).size ≤ sizeLine) :
    Meets (Builtin.«tuple.__mul__» ⟨[.ref l, .int k t], []⟩) (fun _ R s => s.heap.get? l = some { cls := .type "tuple", dict := dd, data := .seq items n, slots := sl } ∧ R (.ok (.ret (Value.ref s.heap.objs.size))) { s with heap := s.heap.push { cls := Value.type "tuple", data := Data.seq ((List.replicate k.toNat items).foldl (fun x1 x2 => x1 ++ x2) #[]) }, toks := s.toks }) :=
  .of_wp fun prog w A R s h => by
    obtain ⟨hp, g, d, tk, os⟩ := s
    obtain ⟨hl, h⟩ := h
    have f1 := AutoSeq1.idx_int
    have hzi : (items.size : Int) * k ≤ (sizeLine : Nat) := by
      have e : ((items.size * k.toNat : Nat) : Int) = (items.size : Int) * k := by rw [Int.natCast_mul]; congr 1; omega
      omega
    have hs : (sizeLine : Nat) = 16777216 := sizeLine_eq
    have c1 : ¬ (decide (k < -(2 ^ 63)) || decide (k ≥ 2 ^ 63)) = true := by simp; omega
    have c2 : ¬ (items.isEmpty || k == 1) = true := by simp [hne]; omega
    have c3 : ¬ (decide (k ≤ 0) || items.isEmpty) = true := by simp [hne]; omega
    have c4 : ¬ ((items.size : Int) * k > (2 ^ 63 - 1) / 8) := by omega
    have c5 : ¬ Builtin.Tuple.tupleTooMany ((items.size : Int) * k) = true := by unfold Builtin.Tuple.tupleTooMany; simp; omega
    wp_walk using wpAny_loadPart' hl
    try rw [if_neg c1]
    try wp_walk using wpAny_loadPart' hl
    try rw [if_neg c2]
    try wp_walk using wpAny_loadPart' hl
    try rw [if_neg c3]
    try wp_walk using wpAny_loadPart' hl
    try rw [if_neg c4]
    try wp_walk using wpAny_loadPart' hl
    try rw [if_neg c5]
    try wp_walk using wpAny_loadPart' hl
    rw [if_neg (Nat.not_lt.mpr hz2)]
    wp_walk using wpAny_loadPart' hl
    all_goals exact ⟨_, rfl, h⟩
noncomputable def rRepT (K : PySem.W.Frag) : R2 := fun x y H Q => ∃ a k xs, x = .ref a ∧ y = .int k ∧ SqT K H a xs ∧ xs ≠ [] ∧ -(2 ^ 63) ≤ k ∧ k < 2 ^ 63 ∧ xs.length * k.toNat ≤ sizeLine ∧
  (k = 1 → Q (.ref a) H) ∧ (k ≠ 1 → ∀ p, H p = none → Q (.ref p) (upd H p (.tup (List.replicate k.toNat xs).flatten)))
theorem op_repT {X : Cx} : OpR X (binaryOp .Mult) (rRepT X.K) := by
  intro pins s σ H x y v u Q I rx ry h
  obtain ⟨a, k, xs, rfl, rfl, hH, hne, h1, h2, hz, q1, q2⟩ := h
  cases rx
  obtain ⟨t, rfl⟩ := ry
  obtain ⟨its, r, ⟨o, e, c, n, d⟩, hzx⟩ := I.tuple hH
  obtain ⟨cls, dd, data, sl⟩ := o
  simp only at c d
  subst c d
  have hl := r.length
  have hne' : its.toArray.isEmpty = false := by
    cases its with
    | nil => exact absurd (List.length_eq_zero_iff.mp hl) hne
    | cons _ _ => rfl
  refine wpAny_binaryOp_repeat_ref (T := "tuple") (U := "int") (by decide) ⟨_, e, rfl⟩ (fun s' => typeIs_int s' k t) noFill_tuple_mul F.fills_int_mul F.slot_int_rmul repeat_tuple F.slot_int_index.lookup
    (call_meets F.slot_int_rmul (typeIs_int s k t) F.entry_int_rmul (F.args_int_rmul_2 _ _) (rmul_int_tuple k t a its.toArray n dd sl) ⟨e, rfl, ⟨_, e, rfl⟩, ?_⟩)
  have new : ∀ (ys : List V) (us : List Value), Vals ys us → ys.length ≤ sizeLine → Inv X pins σ (upd H s.heap.objs.size (.tup ys)) { s with heap := s.heap.push { cls := .type "tuple", data := .seq us.toArray } } := fun ys us rv z =>
    I.laid (t' := s.toks) (fun b o eb => Heap.get?_push_of_some _ eb) (Nat.le_refl _) ⟨z, us, rv, IsTup.new s.heap _⟩
  by_cases hk1 : k = 1
  · subst hk1
    exact call_meets F.slot_tuple_mul ⟨_, e, rfl⟩ F.entry_tuple_mul (F.args_tuple_mul_2 _ _) (tuple_mul1 a its.toArray n dd sl t) ⟨e, .ref a, H, I, rfl, q1 rfl⟩
  · by_cases hk0 : k ≤ 0
    · refine call_meets F.slot_tuple_mul ⟨_, e, rfl⟩ F.entry_tuple_mul (F.args_tuple_mul_2 _ _) (tuple_mul0 a its.toArray n dd sl k t hk0 h1 hne') ⟨e, ?_⟩
      have e0 : k.toNat = 0 := by omega
      have q := q2 hk1 _ I.fresh
      rw [e0] at q
      exact ⟨.ref _, _, new [] [] .nil (Nat.zero_le _), rfl, q⟩
    · have f0 : (List.replicate k.toNat its.toArray).foldl (fun x1 x2 => x1 ++ x2) #[] = (List.replicate k.toNat its).flatten.toArray := by
        have := foldl_rep its k.toNat []
        rw [List.nil_append] at this
        exact this
      have z2 : (List.replicate k.toNat its).flatten.length ≤ sizeLine := by rw [len_rep, ← hl, Nat.mul_comm]; exact hz
      refine call_meets F.slot_tuple_mul ⟨_, e, rfl⟩ F.entry_tuple_mul (F.args_tuple_mul_2 _ _) (tuple_mulN a its.toArray n dd sl k t (by omega) h2 hne' (by rw [List.size_toArray, ← hl]; exact hz) (by rw [f0, List.size_toArray]; exact z2)) ⟨e, ?_⟩
      rw [f0]
      exact ⟨.ref _, _, new _ _ (r.rep k.toNat) (by rw [len_rep, Nat.mul_comm]; exact hz), rfl, q2 hk1 _ I.fresh⟩
/-! ### wrappers -/
section
variable {X : Cx} {a b c e : Expr} {ta tb tc te : TE} {pos : Pos}
theorem op_le_str : OpR X (compareOp .LtE) (fun x y H Q => ∃ i j, x = .str i ∧ y = .str j ∧ Q (.bl (!decide (j.cps.toList < i.cps.toList))) H) := by
  intro pins s σ H x y v u Q I rx ry h
  obtain ⟨i, j, rfl, rfl, q⟩ := h
  obtain ⟨t, rfl⟩ := rx
  obtain ⟨t', rfl⟩ := ry
  exact PySem.P.le_str ⟨.bl _, H, I, rfl, q⟩
theorem qop_le_str : QOp X (compareOp .LtE) (fun x y H Q => ∃ i j, x = .str i ∧ y = .str j ∧ Q (.bl (!decide (j.cps.toList < i.cps.toList))) H) := ⟨op_le_str⟩
theorem qop_in_str : QOp X (compareOp .In) (fun x y H Q => ∃ i j, x = .str i ∧ y = .str j ∧ Q (.bl (!(Builtin.Str.occurrences j i 0 j.length 1).isEmpty)) H) := ⟨op_in_str⟩
theorem qi_str {tg l : Expr} {tl : TE} (hl : QE X l tl) : QI X tg l (iStr tl) := ⟨pi_str hl.h⟩
theorem qc_allB (hc : X.calm = true) : QCall X (.builtin "all") (fun xs H Q => ∃ (p : Addr) (bs : List Bool), xs = [V.ref p] ∧ SqL X.K H p (bs.map V.bl) ∧ Q (.bl (bs.all id)) H) := ⟨call_allB hc⟩
theorem qc_sumL (hc : X.calm = true) : QCall X (.builtin "sum") (fun xs H Q => ∃ (p : Addr) (ns : List Int), xs = [V.ref p] ∧ SqL X.K H p (ns.map V.int) ∧ PySem.SumFits ns ∧ Q (.int ns.sum) H) := ⟨call_sumL hc⟩
theorem qt_chain {op op' : CmpOp} {r r' : R2} (ho : QOp X (compareOp op) r) (ho' : QOp X (compareOp op') r') (ha : QE X a ta) (hb : QE X b tb) (hc : QE X c tc)
    (hm : lastMarks [op, op'] [b, c] = false := by with_unfolding_all rfl) : QT X (.Compare a [op, op'] [b, c] pos) (tTest (tChain r r' ta tb tc)) := ⟨pt_chain ho.h ho'.h ha.h hb.h hc.h hm⟩
end
end L2

set_option maxRecDepth 100000
namespace RB
open PySem L2 PySem.Spec PyProof.Rows

/-! ### heaps that keep what stands -/
/-- all but S is kept -/
noncomputable def But (S : List Addr) (H H' : Hp) : Prop := ∀ b o, b ∉ S → H b = some o → H' b = some o
theorem But.refl (S : List Addr) (H : Hp) : But S H H := fun _ _ _ h => h
theorem But.trans {S : List Addr} {H H1 H2 : Hp} (a : But S H H1) (b : But S H1 H2) : But S H H2 := fun c o n h => b c o n (a c o n h)
theorem But.mono {S S' : List Addr} {H H' : Hp} (a : But S H H') (h : ∀ b ∈ S, b ∈ S') : But S' H H' := fun c o n q => a c o (fun z => n (h c z)) q
theorem But.new {S : List Addr} {H : Hp} {p : Addr} (o : HO) (h : H p = none) : But S H (upd H p o) := fun b u _ q => by rw [upd_ne (ne_of_none q h)]; exact q
theorem But.set {S : List Addr} {H : Hp} {p : Addr} (o : HO) (h : p ∈ S) : But S H (upd H p o) := fun b u n q => by rw [upd_ne (show b ≠ p from fun e => n (by rw [e]; exact h))]; exact q
theorem But.of_same {S : List Addr} {H H' : Hp} (h : Same H H') : But S H H' := fun b o _ q => h b o q
theorem same_new {H : Hp} {p : Addr} (o : HO) (h : H p = none) : Same H (upd H p o) := fun b u q => by rw [upd_ne (ne_of_none q h)]; exact q
/-- tuples are kept -/
noncomputable def Tups (H H' : Hp) : Prop := ∀ b xs, H b = some (.tup xs) → H' b = some (.tup xs)
theorem But.tups {S : List Addr} {H H' : Hp} (h : But S H H') (hS : ∀ b ∈ S, ∃ xs, H b = some (.lst xs)) : Tups H H' := fun b xs q => h b _ (fun z => by obtain ⟨ys, e⟩ := hS b z; rw [q] at e; cases e) q
theorem Same.tups {H H' : Hp} (h : Same H H') : Tups H H' := fun b xs q => h b _ q

/-! ### recipes -/
inductive Op where | plus | minus | times | most
  deriving DecidableEq
noncomputable def Op.word : Op → Str
  | .plus => "plus" | .minus => "minus" | .times => "times" | .most => "most"
inductive R where
  | num (n : Int) | rd (x : Str) | bin (op : Op) (a b : R) | pick (a b c : R) | cho (a : R) (ns : List Str)
noncomputable def R.depth : R → Nat
  | .num _ => 1
  | .rd _ => 1
  | .bin _ a b => max a.depth b.depth + 1
  | .pick a b c => max a.depth (max b.depth c.depth) + 1
  | .cho a _ => a.depth + 1
noncomputable def isLow (c : Nat) : Prop := 97 ≤ c ∧ c ≤ 122
noncomputable def GName (x : Str) : Prop := 1 ≤ x.length ∧ x.length ≤ 8 ∧ ∀ c ∈ x.cps.toList, isLow c
noncomputable def R.Good : R → Prop
  | .num n => n.natAbs < 10 ^ 40
  | .rd x => GName x
  | .bin _ a b => a.Good ∧ b.Good
  | .pick a b c => a.Good ∧ b.Good ∧ c.Good
  | .cho a ns => a.Good ∧ 1 ≤ ns.length ∧ ns.length ≤ 9 ∧ ∀ x ∈ ns, GName x
inductive IsR (H : Hp) : Addr → R → Prop where
  | num {a : Addr} {n : Int} (e : H a = some (.tup [.str "number", .int n])) : IsR H a (.num n)
  | rd {a : Addr} {x : Str} (e : H a = some (.tup [.str "read", .str x])) : IsR H a (.rd x)
  | bin {a b c : Addr} {op : Op} {r s : R} (e : H a = some (.tup [.str op.word, .ref b, .ref c])) (h1 : IsR H b r) (h2 : IsR H c s) : IsR H a (.bin op r s)
  | pick {a b c d : Addr} {r s t : R} (e : H a = some (.tup [.str "pick", .ref b, .ref c, .ref d])) (h1 : IsR H b r) (h2 : IsR H c s) (h3 : IsR H d t) : IsR H a (.pick r s t)
  | cho {a b c : Addr} {r : R} {ns : List Str} (e : H a = some (.tup [.str "choose", .ref b, .ref c])) (h1 : IsR H b r) (h2 : H c = some (.tup (ns.map V.str))) : IsR H a (.cho r ns)
theorem IsR.tups {H H' : Hp} (t : Tups H H') {a : Addr} {r : R} (h : IsR H a r) : IsR H' a r := by
  induction h with
  | num e => exact .num (t _ _ e)
  | rd e => exact .rd (t _ _ e)
  | bin e _ _ i1 i2 => exact .bin (t _ _ e) i1 i2
  | pick e _ _ _ i1 i2 i3 => exact .pick (t _ _ e) i1 i2 i3
  | cho e _ h2 i1 => exact .cho (t _ _ e) i1 (t _ _ h2)
theorem IsR.same {H H' : Hp} (t : Same H H') {a : Addr} {r : R} (h : IsR H a r) : IsR H' a r := h.tups (Same.tups t)
theorem R.depth_pos (r : R) : 1 ≤ r.depth := by cases r <;> simp [R.depth]


theorem joinOk {sep : Str} {ns : List Str} {k : Nat} (h : ∀ x ∈ ns, x.length ≤ k) (h2 : ns.length * k + ns.length * sep.length ≤ 16777216) : JoinOk sep ns = true := by
  have q := StrLaws.joinFits (sep := sep) (texts := ns) (B := k) h h2
  unfold JoinOk
  rw [q]; rfl

/-! ### decks -/
noncomputable def DeckAt (H : Hp) (d c : Addr) : Prop := ∃ (cells : List Int) (mode k : Int), d ≠ c ∧ H d = some (.lst [.ref c, .int mode, .int k]) ∧ H c = some (.lst (cells.map V.int)) ∧ cells ≠ [] ∧ cells.length ≤ 63 ∧ 0 ≤ k
theorem DeckAt.keep {S : List Addr} {H H' : Hp} {d c : Addr} (h : DeckAt H d c) (b : But S H H') (h1 : d ∉ S) (h2 : c ∉ S) : DeckAt H' d c := by
  obtain ⟨cells, mode, k, ne, e1, e2, r⟩ := h
  exact ⟨cells, mode, k, ne, b _ _ h1 e1, b _ _ h2 e2, r⟩
theorem DeckAt.same {H H' : Hp} {d c : Addr} (h : DeckAt H d c) (b : Same H H') : DeckAt H' d c := h.keep (S := []) (But.of_same b) (by simp) (by simp)
noncomputable def spDraw : Sp := fun vs H Q _ => ∃ d c many, vs = [.ref d, .int many] ∧ DeckAt H d c ∧ 0 < many ∧ many.natAbs.log2 < 9000 ∧ ∀ n H', 0 ≤ n → n < many → But [d, c] H H' → DeckAt H' d c → Q (.int n) H'
noncomputable def spName : Sp := fun vs H Q _ => ∃ d c, vs = [.ref d] ∧ DeckAt H d c ∧ ∀ x H', GName x → But [d, c] H H' → DeckAt H' d c → Q (.str x) H'
noncomputable def spNumber : Sp := fun vs H Q _ => ∃ d c, vs = [.ref d] ∧ DeckAt H d c ∧ ∀ n H', n.natAbs < 10 ^ 40 → But [d, c] H H' → DeckAt H' d c → Q (.int n) H'
noncomputable def spDeck (K : PySem.W.Frag) : Sp := fun vs H Q _ => ∃ (a : Addr) (ns : List Int), vs = [.ref a] ∧ SqL K H a (ns.map V.int) ∧ ns.length ≤ 63 ∧ ∀ d c H', Same H H' → H d = none → H c = none → DeckAt H' d c → Q (.ref d) H'
/-- law(script) is True -/
noncomputable def spLaw (K : PySem.W.Frag) : Sp := fun vs H Q _ => ∃ (a : Addr) (ns : List Int), vs = [.ref a] ∧ SqL K H a (ns.map V.int) ∧ ns.length ≤ 63 ∧ ∀ H', Q (.bl true) H'

/-! ### a def of the text -/
structure FnT (K : PySem.W.Frag) (mg : Str → Option Value) (x : Str) (st : Stmt) (ps : List Str) (f : Addr) (fd : FuncData) : Prop where
  F : Fun K x x st f fd
  b : Binds K fd ps []
  m : mg x = some (.ref f)
/-- none of these is a name of the text's own -/
structure Blt (mg : Str → Option Value) : Prop where
  b_len : mg "len" = none
  b_range : mg "range" = none
  b_str : mg "str" = none
  b_int : mg "int" = none
  b_list : mg "list" = none
  b_tuple : mg "tuple" = none
  b_isinstance : mg "isinstance" = none
  b_bool : mg "bool" = none
  b_dict : mg "dict" = none
  b_sum : mg "sum" = none
  b_all : mg "all" = none
  b_any : mg "any" = none
  b_max : mg "max" = none
  b_min : mg "min" = none
  b_sorted : mg "sorted" = none
  b_set : mg "set" = none
  b_enumerate : mg "enumerate" = none
  b_zip : mg "zip" = none
  b_reversed : mg "reversed" = none
  b_abs : mg "abs" = none
end RB
namespace RB
open PySem L2 PySem.Spec PyProof.Rows
theorem at_ok {xs : List Int} {i : Int} (h0 : 0 ≤ i) (h1 : i < ((xs.map V.int).length : Int)) : ∃ v j, atI (xs.map V.int) i = some (.int v) ∧ ixN (xs.map V.int).length i = some j ∧ j < xs.length ∧ ∀ u : Int, (xs.map V.int).set j (.int u) = (xs.set j u).map V.int := by
  have hl : (xs.map V.int).length = xs.length := List.length_map _
  obtain ⟨j, rfl⟩ := Int.eq_ofNat_of_zero_le h0
  have hj : j < xs.length := by omega
  refine ⟨xs[j], j, atI_nat (by rw [List.getElem?_map, List.getElem?_eq_getElem hj]; rfl), ?_, hj, fun u => ?_⟩
  · unfold ixN
    rw [if_pos h0, if_pos (by omega)]
    simp
  · rw [List.map_set]
end RB
namespace RB
open PySem L2 PySem.Spec PyProof.Rows
theorem But.upd {S : List Addr} {H H' : Hp} {p : Addr} (b : But S H H') (o : HO) (h : H p = none) : But S H (upd H' p o) := fun c u n q => by
  rw [upd_ne (ne_of_none q h)]; exact b c u n q
theorem DeckAt.fresh {H : Hp} {d c p : Addr} (h : DeckAt H d c) (hp : H p = none) : p ∉ [d, c] := by
  obtain ⟨cells, mode, k, ne, e1, e2, r⟩ := h
  intro z
  rcases List.mem_cons.mp z with z | z
  · rw [← z, hp] at e1; cases e1
  · have z' : p = c := by simpa using z
    rw [← z', hp] at e2; cases e2
theorem DeckAt.upd {H : Hp} {d c p : Addr} (h : DeckAt H d c) (o : HO) (hp : p ∉ [d, c]) : DeckAt (upd H p o) d c := by
  obtain ⟨cells, mode, k, ne, e1, e2, r⟩ := h
  have h1 : d ≠ p := fun z => hp (by simp [z])
  have h2 : c ≠ p := fun z => hp (by simp [z])
  exact ⟨cells, mode, k, ne, by rw [upd_ne h1]; exact e1, by rw [upd_ne h2]; exact e2, r⟩
theorem DeckAt.lists {H : Hp} {d c : Addr} (h : DeckAt H d c) : ∀ b ∈ [d, c], ∃ xs, H b = some (.lst xs) := by
  obtain ⟨cells, mode, k, ne, e1, e2, r⟩ := h
  intro b hb
  rcases List.mem_cons.mp hb with z | z
  · exact ⟨_, z ▸ e1⟩
  · have z' : b = c := by simpa using z
    exact ⟨_, z' ▸ e2⟩
theorem DeckAt.tups {H H' : Hp} {d c : Addr} (h : DeckAt H d c) (b : But [d, c] H H') : Tups H H' := b.tups h.lists
theorem deck_tups {H H' : Hp} {d c l : Addr} {xs : List V} (h : DeckAt H d c) (hl : H l = some (.lst xs)) (b : But [d, c, l] H H') : Tups H H' := b.tups fun p hp => by
  rcases List.mem_cons.mp hp with z | z
  · exact h.lists p (by simp [z])
  · rcases List.mem_cons.mp z with z | z
    · exact h.lists p (by simp [z])
    · have z' : p = l := by simpa using z
      exact ⟨_, z' ▸ hl⟩
instance (x : Str) : Decidable (GName x) := by unfold GName isLow; exact inferInstance
theorem six {n : Int} (h0 : 0 ≤ n) (h1 : n < 6) : ∃ x, atI [V.str "a", V.str "b", V.str "ab", V.str "x", V.str "y", V.str "zzzzzzzz"] n = some (.str x) ∧ GName x := by
  have h : n = 0 ∨ n = 1 ∨ n = 2 ∨ n = 3 ∨ n = 4 ∨ n = 5 := by omega
  rcases h with rfl | rfl | rfl | rfl | rfl | rfl
  · exact ⟨"a", rfl, by decide +kernel⟩
  · exact ⟨"b", rfl, by decide +kernel⟩
  · exact ⟨"ab", rfl, by decide +kernel⟩
  · exact ⟨"x", rfl, by decide +kernel⟩
  · exact ⟨"y", rfl, by decide +kernel⟩
  · exact ⟨"zzzzzzzz", rfl, by decide +kernel⟩
theorem letters_cps : (Str.ofString "abcdefghijklmnopqrstuvwxyz").cps.toList = (List.range 26).map (· + 97) := by decide +kernel
theorem letter {n : Int} (h0 : 0 ≤ n) (h1 : n < 26) : ∃ c, atI (Str.ofString "abcdefghijklmnopqrstuvwxyz").cps.toList n = some c ∧ isLow c := by
  obtain ⟨j, rfl⟩ := Int.eq_ofNat_of_zero_le h0
  refine ⟨j + 97, atI_nat ?_, ?_⟩
  · rw [letters_cps, List.getElem?_map, List.getElem?_range (by omega)]; rfl
  · unfold isLow; omega
theorem join_empty : ∀ ts : List Str, (Txt.join "" ts).cps.toList = (ts.map fun x => x.cps.toList).flatten := by
  intro ts
  have e : Txt.join "" ts = Str.join "" ts := StrLaws.glued_eq_join "" ts
  rw [e]
  induction ts with
  | nil => rfl
  | cons x r ih =>
    cases r with
    | nil => simp [Str.join]
    | cons y r =>
      show ((x.cps ++ ("" : Str).cps) ++ (Str.join "" (y :: r)).cps).toList = _
      rw [Array.toList_append, Array.toList_append, ih (StrLaws.glued_eq_join "" (y :: r))]
      have z : ("" : Str).cps.toList = [] := by decide +kernel
      rw [z]; simp
noncomputable def OneLow (x : Str) : Prop := ∃ c, x = ⟨#[c]⟩ ∧ isLow c
theorem join_name {ts : List Str} (h : ∀ x ∈ ts, OneLow x) (h1 : 1 ≤ ts.length) (h2 : ts.length ≤ 8) : GName (Txt.join "" ts) := by
  have q : ∀ l : List Str, (∀ x ∈ l, OneLow x) → ((l.map fun x => x.cps.toList).flatten).length = l.length ∧ ∀ c ∈ (l.map fun x => x.cps.toList).flatten, isLow c := by
    intro l
    induction l with
    | nil => intro _; simp
    | cons x r ih =>
      intro hl
      obtain ⟨c, rfl, hc⟩ := hl x List.mem_cons_self
      obtain ⟨i1, i2⟩ := ih fun y hy => hl y (List.mem_cons_of_mem _ hy)
      constructor
      · rw [List.map_cons, List.flatten_cons, List.length_append, i1, List.length_cons]
        show 1 + r.length = r.length + 1
        omega
      · intro c' hc'
        rw [List.map_cons, List.flatten_cons, List.mem_append] at hc'
        rcases hc' with z | z
        · have : c' = c := by simpa using z
          rw [this]; exact hc
        · exact i2 c' z
  obtain ⟨a, b⟩ := q ts h
  have hl : (Txt.join "" ts).length = ts.length := by
    rw [← a, ← join_empty]; simp [Str.length]
  refine ⟨by omega, by omega, fun c hc => ?_⟩
  rw [join_empty] at hc
  exact b c hc
end RB

namespace RB
open PySem L2 PySem.Spec PyProof.Rows
theorem never {P : Program} {w : World} {K : PySem.W.Frag} {mg : Str → Option Value} {base : Heap} {k : Nat} {f : Addr} {fd : FuncData} {ps : List Str} {sp : Sp} (no : ∀ vs H Q E, ¬ sp vs H Q E) : FnOk P w K mg base CX0 k f fd ps sp :=
  ⟨fun vs H Q E h => absurd h (no vs H Q E), fun A outer s H args us vs Q E _ _ _ _ h => absurd h (no vs H Q E)⟩
theorem five {n : Int} (h0 : 2 ≤ n) (h1 : n < 7) : ∃ op : Op, atI [V.str "plus", V.str "minus", V.str "times", V.str "most", V.str "plus"] (n - 2) = some (.str op.word) := by
  have h : n = 2 ∨ n = 3 ∨ n = 4 ∨ n = 5 ∨ n = 6 := by omega
  rcases h with rfl | rfl | rfl | rfl | rfl
  · exact ⟨.plus, rfl⟩
  · exact ⟨.minus, rfl⟩
  · exact ⟨.times, rfl⟩
  · exact ⟨.most, rfl⟩
  · exact ⟨.plus, rfl⟩
end RB
namespace RB
open PySem L2 PySem.Spec PyProof.Rows
end RB
namespace RB
open PySem L2 PySem.Spec PyProof.Rows
theorem cut63 {ns : List Int} (h : ns.length ≤ 63) : cutV (ns.map V.int) none (some 63) = ns.map V.int := by
  unfold cutV
  have e1 : HT.sIx (ns.map V.int).length 0 none = 0 := rfl
  have e2 : HT.sIx (ns.map V.int).length (ns.map V.int).length (some 63) = (ns.map V.int).length := by
    have := HT.sIx_nat (ns.map V.int).length (ns.map V.int).length 63
    rw [show ((63 : Nat) : Int) = 63 from rfl] at this
    rw [this, List.length_map]; omega
  rw [e1, e2, List.drop_zero, Nat.sub_zero, List.take_length]
theorem shaped_ints (ns : List Int) : SeqAt.shaped (.list (ns.map PyData.int)) = true := by
  simp [SeqAt.shaped, PyData.canLay0, PyData.canLayAll0, PyData.depth, PyData.depthAll, PySem.W.ke_canLayAll0, PySem.W.ke_depthAll]
end RB
namespace RB
open PySem L2 PySem.Spec PyProof.Rows
end RB
namespace RB
open PySem L2 PySem.Spec PyProof.Rows
theorem tups_set {H : Hp} {p : Addr} {xs : List V} (o : HO) (h : H p = some (.lst xs)) : Tups H (upd H p o) := fun b ys q => by
  rw [upd_ne (ne_of q h (by intro z; cases z))]; exact q
theorem same_updN {H H' : Hp} {p : Addr} (o : HO) (h : H p = none) (s : Same H H') : Same H (upd H' p o) := fun b u q => by
  rw [upd_ne (ne_of_none q h)]; exact s b u q
end RB
namespace RB
open PySem L2 PySem.Spec PyProof.Rows
theorem kit_same {K : PySem.W.Frag} (t : Value) : PySem.W.kitOne K t t = some true := by unfold PySem.W.kitOne; rw [if_pos (beq_self_eq_true t)]
end RB

set_option maxRecDepth 100000
namespace RB
open PySem L2 PySem.Spec PyProof.Rows

/-! ### any thing, and whether it is a recipe -/
inductive Th where
  | non | bl (b : Bool) | int (i : Int) | str (x : Str) | tup (xs : List Th) | oth (T : String)
mutual
inductive IsTh (K : PySem.W.Frag) (H : Hp) : V → Th → Prop where
  | non : IsTh K H .non .non
  | bl (b : Bool) : IsTh K H (.bl b) (.bl b)
  | int (i : Int) : IsTh K H (.int i) (.int i)
  | str (x : Str) : IsTh K H (.str x) (.str x)
  | tup {a : Addr} {vs : List V} {ts : List Th} (e : H a = some (.tup vs)) (h : IsThs K H vs ts) : IsTh K H (.ref a) (.tup ts)
  | oth {a : Addr} {T : String} (h : TyOf K H (.ref a) (.type T)) (hT : T = "list" ∨ T = "dict") (keep : ∀ H', Same H H' → TyOf K H' (.ref a) (.type T)) : IsTh K H (.ref a) (.oth T)
inductive IsThs (K : PySem.W.Frag) (H : Hp) : List V → List Th → Prop where
  | nil : IsThs K H [] []
  | cons {v : V} {t : Th} {vs : List V} {ts : List Th} (h : IsTh K H v t) (r : IsThs K H vs ts) : IsThs K H (v :: vs) (t :: ts)
end
mutual
theorem IsTh.same {K : PySem.W.Frag} {H H' : Hp} (s : Same H H') : ∀ {v : V} {t : Th}, IsTh K H v t → IsTh K H' v t
  | _, _, .non => .non
  | _, _, .bl b => .bl b
  | _, _, .int i => .int i
  | _, _, .str x => .str x
  | _, _, .tup e h => .tup (s _ _ e) (IsThs.same s h)
  | _, _, .oth h hT k => .oth (k _ s) hT fun H2 s2 => k _ (s.trans s2)
theorem IsThs.same {K : PySem.W.Frag} {H H' : Hp} (s : Same H H') : ∀ {vs : List V} {ts : List Th}, IsThs K H vs ts → IsThs K H' vs ts
  | _, _, .nil => .nil
  | _, _, .cons h r => .cons (IsTh.same s h) (IsThs.same s r)
end
theorem IsThs.length {K : PySem.W.Frag} {H : Hp} : ∀ {vs : List V} {ts : List Th}, IsThs K H vs ts → vs.length = ts.length
  | _, _, .nil => rfl
  | _, _, .cons _ r => congrArg (· + 1) (IsThs.length r)
theorem IsThs.get {K : PySem.W.Frag} {H : Hp} : ∀ {vs : List V} {ts : List Th} {i : Nat} {v : V}, IsThs K H vs ts → vs[i]? = some v → ∃ t, ts[i]? = some t ∧ IsTh K H v t
  | _, _, _, _, .nil, e => by simp at e
  | _, _, 0, _, .cons h _, e => by simp at e; subst e; exact ⟨_, rfl, h⟩
  | _, _, i + 1, v, .cons _ r, e => by
    obtain ⟨t, h1, h2⟩ := IsThs.get (i := i) (v := v) r (by simpa using e)
    exact ⟨t, by simpa using h1, h2⟩
noncomputable def tyTh : Th → String
  | .non => "NoneType" | .bl _ => "bool" | .int _ => "int" | .str _ => "str" | .tup _ => "tuple" | .oth T => T
theorem IsTh.ty {K : PySem.W.Frag} {H : Hp} {v : V} {t : Th} (h : IsTh K H v t) : TyOf K H v (.type (tyTh t)) := by
  cases h with
  | non => exact .non
  | bl b => exact .bl b
  | int i => exact .int i
  | str x => exact .str x
  | tup e _ => exact .tup e
  | oth h _ _ => exact h
noncomputable def tys : List String := ["NoneType", "bool", "int", "str", "tuple", "list", "dict"]
noncomputable def subT (t c : String) : Bool := t == c || (t == "bool" && c == "int")
/-- what isinstance tells of built-in classes -/
noncomputable def Kinds (K : PySem.W.Frag) : Prop := ∀ t ∈ tys, ∀ c ∈ tys, PySem.W.kitOne K (.type t) (.type c) = some (subT t c)
theorem kinds_mk {K : PySem.W.Frag} (h : (tys.all fun t => tys.all fun c => PySem.W.kitOne K (.type t) (.type c) == some (subT t c)) = true) : Kinds K := fun t ht c hc => by
  have h1 := List.all_eq_true.mp h t ht
  have h2 := List.all_eq_true.mp h1 c hc
  exact eq_of_beq h2
theorem ty_mem {K : PySem.W.Frag} {H : Hp} {v : V} {t : Th} (h : IsTh K H v t) : tyTh t ∈ tys := by
  cases h with
  | oth _ hT _ => rcases hT with rfl | rfl <;> simp [tyTh, tys]
  | _ => simp [tyTh, tys]
theorem IsTh.isi {K : PySem.W.Frag} {H : Hp} {v : V} {t : Th} (h : IsTh K H v t) (k : Kinds K) {c : String} (hc : c ∈ tys) : PySem.W.kitOne K (.type (tyTh t)) (.type c) = some (subT (tyTh t) c) := k _ (ty_mem h) _ hc

noncomputable def nameT : Th → Bool
  | .str x => decide (GName x)
  | _ => false
noncomputable def wholeT : Th → Bool
  | .int _ => true
  | _ => false
noncomputable def choiceT : Th → Bool
  | .tup xs => decide (1 ≤ xs.length) && decide (xs.length ≤ 9) && xs.all nameT
  | _ => false
/-- the recipes within, if it has a recipe's shape -/
noncomputable def shapeT : Th → Option (List Th)
  | .tup [.str k, x] => if k = "number" then (if wholeT x = true then some [] else none) else if k = "read" then (if nameT x = true then some [] else none) else none
  | .tup [.str k, x, y] => if k = "choose" then (if choiceT y = true then some [x] else none) else if k = "plus" ∨ k = "minus" ∨ k = "times" ∨ k = "most" then some [x, y] else none
  | .tup [.str k, x, y, z] => if k = "pick" then some [x, y, z] else none
  | _ => none
noncomputable def szN : Nat → Th → Nat
  | 0, _ => 1000
  | n + 1, t => match shapeT t with
    | none => 1000
    | some ks => 1 + (ks.map (szN n)).sum
theorem szN_pos (n : Nat) (t : Th) : 1 ≤ szN n t := by
  cases n with
  | zero => simp [szN]
  | succ n =>
    unfold szN
    split <;> omega
noncomputable def withinD : List (Str × PyData) := [("number", .int 0), ("read", .int 0), ("plus", .int 2), ("minus", .int 2), ("times", .int 2), ("most", .int 2), ("pick", .int 3), ("choose", .int 1)]
/-! ### contracts -/
/-- no text within is longer than the model's line -/
inductive ShortT : Th → Prop where
  | non : ShortT .non
  | bl (b : Bool) : ShortT (.bl b)
  | int (i : Int) : ShortT (.int i)
  | str {x : Str} (h : x.length ≤ sizeLine) : ShortT (.str x)
  | tup {ts : List Th} (h : ∀ t ∈ ts, ShortT t) : ShortT (.tup ts)
  | oth (T : String) : ShortT (.oth T)
theorem ShortT.of {ts : List Th} (h : ShortT (.tup ts)) : ∀ t ∈ ts, ShortT t := by cases h; assumption
theorem ShortT.len {x : Str} (h : ShortT (.str x)) : x.length ≤ sizeLine := by cases h; assumption
noncomputable def spWhole (K : PySem.W.Frag) : Sp := fun vs H Q _ => ∃ v t, vs = [v] ∧ IsTh K H v t ∧ Q (.bl (wholeT t)) H
noncomputable def spIsName (K : PySem.W.Frag) : Sp := fun vs H Q _ => ∃ v t, vs = [v] ∧ IsTh K H v t ∧ ShortT t ∧ ∀ H', Same H H' → Q (.bl (nameT t)) H'
instance (c : Nat) : Decidable (isLow c) := by unfold isLow; exact inferInstance
theorem low_iff (c : Nat) : (!(Builtin.Str.occurrences (Str.ofString "abcdefghijklmnopqrstuvwxyz") ⟨#[c]⟩ 0 (Str.ofString "abcdefghijklmnopqrstuvwxyz").length 1).isEmpty) = decide (isLow c) := by
  rw [StrLaws.found_one, letters_cps]
  have : (c ∈ (List.range 26).map (· + 97)) ↔ isLow c := by
    rw [List.mem_map]
    unfold isLow
    constructor
    · rintro ⟨k, hk, rfl⟩
      have := List.mem_range.mp hk
      omega
    · intro h
      exact ⟨c - 97, List.mem_range.mpr (by omega), by omega⟩
  simp only [this]
noncomputable def spChoice (K : PySem.W.Frag) : Sp := fun vs H Q _ => ∃ v t, vs = [v] ∧ IsTh K H v t ∧ ShortT t ∧ ∀ H', Same H H' → Q (.bl (choiceT t)) H'
noncomputable def spShape (K : PySem.W.Frag) : Sp := fun vs H Q _ => ∃ v t, vs = [v] ∧ IsTh K H v t ∧ ShortT t ∧ ∀ H', Same H H' → Q (.bl (shapeT t).isSome) H'
noncomputable def spWithin (K : PySem.W.Frag) : Sp := fun vs H Q _ => ∃ v t ks H0, vs = [v] ∧ IsTh K H0 v t ∧ Same H0 H ∧ shapeT t = some ks ∧ ∀ a ws H', Same H H' → H' a = some (.tup ws) → IsThs K H0 ws ks → Q (.ref a) H'
noncomputable def spIsRec (K : PySem.W.Frag) : Sp := fun vs H Q _ => ∃ v t, vs = [v] ∧ IsTh K H v t ∧ ShortT t ∧ ∀ H', Same H H' → Q (.bl (decide (szN 8 t ≤ 100))) H'
theorem shape2 (k : Str) (x : Th) : shapeT (.tup [.str k, x]) = if k = "number" then (if wholeT x = true then some [] else none) else if k = "read" then (if nameT x = true then some [] else none) else none := rfl
theorem shape3 (k : Str) (x y : Th) : shapeT (.tup [.str k, x, y]) = if k = "choose" then (if choiceT y = true then some [x] else none) else if k = "plus" ∨ k = "minus" ∨ k = "times" ∨ k = "most" then some [x, y] else none := rfl
theorem shape4 (k : Str) (x y z : Th) : shapeT (.tup [.str k, x, y, z]) = if k = "pick" then some [x, y, z] else none := rfl
theorem shape_len1 {k : Str} {r : List Th} (hk : k = "number" ∨ k = "read") (h : r.length ≠ 1) : shapeT (.tup (.str k :: r)) = none := by
  rcases r with _ | ⟨x, _ | ⟨y, _ | ⟨z, _ | ⟨u, r⟩⟩⟩⟩
  · rfl
  · simp at h
  · rw [shape3]; rcases hk with rfl | rfl <;> rw [if_neg (by decide +kernel), if_neg (by decide +kernel)]
  · rw [shape4]; rcases hk with rfl | rfl <;> rw [if_neg (by decide +kernel)]
  · rfl
theorem shape_len2 {k : Str} {r : List Th} (hk : k = "choose" ∨ k = "plus" ∨ k = "minus" ∨ k = "times" ∨ k = "most") (h : r.length ≠ 2) : shapeT (.tup (.str k :: r)) = none := by
  rcases r with _ | ⟨x, _ | ⟨y, _ | ⟨z, _ | ⟨u, r⟩⟩⟩⟩
  · rfl
  · rw [shape2]; rcases hk with rfl | rfl | rfl | rfl | rfl <;> rw [if_neg (by decide +kernel), if_neg (by decide +kernel)]
  · simp at h
  · rw [shape4]; rcases hk with rfl | rfl | rfl | rfl | rfl <;> rw [if_neg (by decide +kernel)]
  · rfl
theorem shape_len3 {r : List Th} (h : r.length ≠ 3) : shapeT (.tup (.str "pick" :: r)) = none := by
  rcases r with _ | ⟨x, _ | ⟨y, _ | ⟨z, _ | ⟨u, r⟩⟩⟩⟩
  · rfl
  · rw [shape2, if_neg (by decide +kernel), if_neg (by decide +kernel)]
  · rw [shape3, if_neg (by decide +kernel), if_neg (by decide +kernel)]
  · simp at h
  · rfl
theorem shape_other {k : Str} {r : List Th} (h : k ≠ "number" ∧ k ≠ "read" ∧ k ≠ "choose" ∧ k ≠ "plus" ∧ k ≠ "minus" ∧ k ≠ "times" ∧ k ≠ "most" ∧ k ≠ "pick") : shapeT (.tup (.str k :: r)) = none := by
  obtain ⟨h1, h2, h3, h4, h5, h6, h7, h8⟩ := h
  rcases r with _ | ⟨x, _ | ⟨y, _ | ⟨z, _ | ⟨u, r⟩⟩⟩⟩
  · rfl
  · rw [shape2, if_neg h1, if_neg h2]
  · rw [shape3, if_neg h3, if_neg (by simp [h4, h5, h6, h7])]
  · rw [shape4, if_neg h8]
  · rfl
theorem shape_num (x : Th) : shapeT (.tup [.str "number", x]) = if wholeT x = true then some [] else none := by rw [shape2, if_pos rfl]
theorem shape_rd (x : Th) : shapeT (.tup [.str "read", x]) = if nameT x = true then some [] else none := by
  rw [shape2, if_neg (by decide +kernel), if_pos rfl]
theorem shape_cho (x y : Th) : shapeT (.tup [.str "choose", x, y]) = if choiceT y = true then some [x] else none := by rw [shape3, if_pos rfl]
theorem shape_op {k : Str} (hk : k = "plus" ∨ k = "minus" ∨ k = "times" ∨ k = "most") (x y : Th) : shapeT (.tup [.str k, x, y]) = some [x, y] := by
  rw [shape3, if_neg (by rcases hk with rfl | rfl | rfl | rfl <;> decide +kernel), if_pos hk]
theorem shape_pick (x y z : Th) : shapeT (.tup [.str "pick", x, y, z]) = some [x, y, z] := by rw [shape4, if_pos rfl]
noncomputable abbrev wLook (k : Str) : Option PyData := PySem.Spec.lookup (.str k) (withinD.map fun p => (PyData.str p.1, p.2))
theorem w_number : wLook "number" = some (.int 0) := by kernel_rfl
theorem w_read : wLook "read" = some (.int 0) := by kernel_rfl
theorem w_plus : wLook "plus" = some (.int 2) := by kernel_rfl
theorem w_minus : wLook "minus" = some (.int 2) := by kernel_rfl
theorem w_times : wLook "times" = some (.int 2) := by kernel_rfl
theorem w_most : wLook "most" = some (.int 2) := by kernel_rfl
theorem w_pick : wLook "pick" = some (.int 3) := by kernel_rfl
theorem w_choose : wLook "choose" = some (.int 1) := by kernel_rfl
theorem w_none {k : Str} (h : k ≠ "number" ∧ k ≠ "read" ∧ k ≠ "choose" ∧ k ≠ "plus" ∧ k ≠ "minus" ∧ k ≠ "times" ∧ k ≠ "most" ∧ k ≠ "pick") : wLook k = none := by
  obtain ⟨h1, h2, h3, h4, h5, h6, h7, h8⟩ := h
  simp only [wLook, withinD, List.map_cons, List.map_nil, PySem.Spec.lookup, PyProof.V.same_str]
  simp [Ne.symm h1, Ne.symm h2, Ne.symm h3, Ne.symm h4, Ne.symm h5, Ne.symm h6, Ne.symm h7, Ne.symm h8]
theorem shape_inv {t : Th} {ks : List Th} (h : shapeT t = some ks) : (∃ x, t = .tup [.str "number", x] ∧ ks = []) ∨ (∃ x, t = .tup [.str "read", x] ∧ ks = []) ∨ (∃ x y, t = .tup [.str "choose", x, y] ∧ ks = [x]) ∨
    (∃ (k : Str) (x y : Th), (k = "plus" ∨ k = "minus" ∨ k = "times" ∨ k = "most") ∧ t = .tup [.str k, x, y] ∧ ks = [x, y]) ∨ ∃ x y z, t = .tup [.str "pick", x, y, z] ∧ ks = [x, y, z] := by
  unfold shapeT at h
  split at h
  · rename_i k x
    split at h
    · rename_i hk
      split at h
      · cases h; exact .inl ⟨x, by rw [hk], rfl⟩
      · cases h
    · split at h
      · rename_i _ hk
        split at h
        · cases h; exact .inr (.inl ⟨x, by rw [hk], rfl⟩)
        · cases h
      · cases h
  · rename_i k x y
    split at h
    · rename_i hk
      split at h
      · cases h; exact .inr (.inr (.inl ⟨x, y, by rw [hk], rfl⟩))
      · cases h
    · split at h
      · rename_i _ hk
        cases h; exact .inr (.inr (.inr (.inl ⟨k, x, y, hk, rfl, rfl⟩)))
      · cases h
  · rename_i k x y z
    split at h
    · rename_i hk
      cases h; exact .inr (.inr (.inr (.inr ⟨x, y, z, by rw [hk], rfl⟩)))
    · cases h
  · cases h
theorem itB_t {b : Bool} {A B : Prop} (h : b = true) (hA : A) : if b = true then A else B := by rw [if_pos h]; exact hA
theorem itB_f {b : Bool} {A B : Prop} (h : b = false) (hB : B) : if b = true then A else B := by rw [if_neg (by rw [h]; exact Bool.false_ne_true)]; exact hB
theorem op_isSome {k : Str} (hk : k = "plus" ∨ k = "minus" ∨ k = "times" ∨ k = "most") {ts : List Th} {x : V} {vs : List V} (hl : vs.length = ts.length) : (shapeT (.tup (.str k :: ts))).isSome = decide (V.int (((x :: vs).length : Nat) : Int) = V.int (1 + 2)) := by
  by_cases h : ts.length = 2
  · rcases ts with _ | ⟨a, _ | ⟨b, _ | ⟨c, r⟩⟩⟩
    · simp at h
    · simp at h
    · rw [shape_op hk, decide_eq_true]
      · rfl
      · rw [List.length_cons, hl]; rfl
    · simp at h
  · rw [shape_len2 (.inr hk) h, decide_eq_false]
    · rfl
    · intro z
      have := V.int.inj z
      simp at this
      omega
theorem pick_isSome {ts : List Th} {x : V} {vs : List V} (hl : vs.length = ts.length) : (shapeT (.tup (.str "pick" :: ts))).isSome = decide (V.int (((x :: vs).length : Nat) : Int) = V.int (1 + 3)) := by
  by_cases h : ts.length = 3
  · rcases ts with _ | ⟨a, _ | ⟨b, _ | ⟨c, _ | ⟨d, r⟩⟩⟩⟩
    · simp at h
    · simp at h
    · simp at h
    · rw [shape_pick, decide_eq_true]
      · rfl
      · rw [List.length_cons, hl]; rfl
    · simp at h
  · rw [shape_len3 h, decide_eq_false]
    · rfl
    · intro z
      have := V.int.inj z
      simp at this
      omega
theorem len_of {x : V} {vs : List V} {n : Int} : (V.int (((x :: vs).length : Nat) : Int) = V.int n) ↔ (vs.length : Int) = n - 1 := by
  constructor
  · intro z
    have := V.int.inj z
    simp at this
    omega
  · intro z
    congr 1
    simp
    omega
theorem kids_short {t : Th} {ks : List Th} (h : shapeT t = some ks) (s : ShortT t) : ∀ k ∈ ks, ShortT k := by
  rcases shape_inv h with ⟨x, rfl, rfl⟩ | ⟨x, rfl, rfl⟩ | ⟨x, y, rfl, rfl⟩ | ⟨k, x, y, _, rfl, rfl⟩ | ⟨x, y, z, rfl, rfl⟩
  · simp
  · simp
  · intro k hk; exact s.of k (by simp at hk; simp [hk])
  · intro k' hk; exact s.of k' (by simp at hk; rcases hk with rfl | rfl <;> simp)
  · intro k' hk; exact s.of k' (by simp at hk; rcases hk with rfl | rfl | rfl <;> simp)
theorem kids_le {t : Th} {ks : List Th} (h : shapeT t = some ks) : ks.length ≤ 3 := by
  rcases shape_inv h with ⟨x, rfl, rfl⟩ | ⟨x, rfl, rfl⟩ | ⟨x, y, rfl, rfl⟩ | ⟨k, x, y, _, rfl, rfl⟩ | ⟨x, y, z, rfl, rfl⟩ <;> simp
/-- one row of the list of what is to do: its tuple, the thing, what it is, its depth -/
structure Job where
  a : Addr
  v : V
  t : Th
  d : Nat
structure JOk (K : PySem.W.Frag) (H0 H : Hp) (j : Job) : Prop where
  e : H j.a = some (.tup [j.v, .int j.d])
  i : IsTh K H0 j.v j.t
  s : ShortT j.t
  lo : 1 ≤ j.d
  hi : j.d ≤ 9
noncomputable def sumJ (js : List Job) : Nat := (js.map fun j => szN (9 - j.d) j.t).sum
theorem sumJ_snoc (js : List Job) (j : Job) : sumJ (js ++ [j]) = sumJ js + szN (9 - j.d) j.t := by
  unfold sumJ
  rw [List.map_append, List.sum_append]
  simp
theorem JOk.tups {K : PySem.W.Frag} {H0 H H' : Hp} (s : Tups H H') {j : Job} (h : JOk K H0 H j) : JOk K H0 H' j := ⟨s _ _ h.e, h.i, h.s, h.lo, h.hi⟩
theorem szN_some {d : Nat} {t : Th} {ks : List Th} (hd : d ≤ 8) (h : shapeT t = some ks) : szN (9 - d) t = 1 + (ks.map (szN (8 - d))).sum := by
  have e : 9 - d = (8 - d) + 1 := by omega
  rw [e]
  show (match shapeT t with | none => 1000 | some ks => 1 + (ks.map (szN (8 - d))).sum) = _
  rw [h]
theorem szN_none {d : Nat} {t : Th} (h : shapeT t = none) : 1000 ≤ szN d t := by
  cases d with
  | zero => exact Nat.le_refl _
  | succ d =>
    show 1000 ≤ (match shapeT t with | none => 1000 | some ks => 1 + (ks.map (szN d)).sum)
    rw [h]
    exact Nat.le_refl _
theorem Tups.trans {H H1 H2 : Hp} (a : Tups H H1) (b : Tups H1 H2) : Tups H H2 := fun c xs h => b c xs (a c xs h)
/-- an invariant that the stepping leaves alone -/
structure Wr (p : Prop) : Prop where
  h : p
end RB

set_option maxRecDepth 100000
namespace RB
open PySem L2 PySem.Spec PyProof.Rows
/-! ### recipes whose read names may be none -/
noncomputable def R.toTh : R → Th
  | .num n => .tup [.str "number", .int n]
  | .rd x => .tup [.str "read", .str x]
  | .bin op a b => .tup [.str op.word, a.toTh, b.toTh]
  | .pick a b c => .tup [.str "pick", a.toTh, b.toTh, c.toTh]
  | .cho a ns => .tup [.str "choose", a.toTh, .tup (ns.map Th.str)]
noncomputable def R.Fine : R → Prop
  | .num _ => True
  | .rd x => x.length ≤ 8 ∧ ∀ c ∈ x.cps.toList, c < 128
  | .bin _ a b => a.Fine ∧ b.Fine
  | .pick a b c => a.Fine ∧ b.Fine ∧ c.Fine
  | .cho a ns => a.Fine ∧ 1 ≤ ns.length ∧ ns.length ≤ 9 ∧ ∀ x ∈ ns, GName x
theorem strs_isThs {K : PySem.W.Frag} {H : Hp} : ∀ ns : List Str, IsThs K H (ns.map V.str) (ns.map Th.str)
  | [] => .nil
  | x :: r => .cons (.str x) (strs_isThs r)
theorem IsR.isTh {K : PySem.W.Frag} {H : Hp} {a : Addr} {r : R} (h : IsR H a r) : IsTh K H (.ref a) r.toTh := by
  induction h with
  | num e => exact .tup e (.cons (.str _) (.cons (.int _) .nil))
  | rd e => exact .tup e (.cons (.str _) (.cons (.str _) .nil))
  | bin e _ _ i1 i2 => exact .tup e (.cons (.str _) (.cons i1 (.cons i2 .nil)))
  | pick e _ _ _ i1 i2 i3 => exact .tup e (.cons (.str _) (.cons i1 (.cons i2 (.cons i3 .nil))))
  | cho e _ h2 i1 => exact .tup e (.cons (.str _) (.cons i1 (.cons (.tup h2 (strs_isThs _)) .nil)))
theorem choice_ok {ns : List Str} (h1 : 1 ≤ ns.length) (h2 : ns.length ≤ 9) (h : ∀ x ∈ ns, GName x) : choiceT (.tup (ns.map Th.str)) = true := by
  show (decide (1 ≤ (ns.map Th.str).length) && decide ((ns.map Th.str).length ≤ 9) && (ns.map Th.str).all nameT) = true
  rw [List.length_map, decide_eq_true h1, decide_eq_true h2, List.all_map]
  simp only [Bool.true_and, List.all_eq_true]
  intro x hx
  exact decide_eq_true (h x hx)
/-- the recipes within, if it is one's shape -/
noncomputable def R.kids : R → Option (List R)
  | .num _ => some []
  | .rd x => if GName x then some [] else none
  | .bin _ a b => some [a, b]
  | .pick a b c => some [a, b, c]
  | .cho a _ => some [a]
theorem R.shape (r : R) (h : r.Fine) : shapeT r.toTh = (r.kids).map (·.map R.toTh) := by
  cases r with
  | num n => exact (shape_num _).trans (by rfl)
  | rd x =>
    refine (shape_rd _).trans ?_
    show (if decide (GName x) = true then some [] else none) = Option.map _ (if GName x then some [] else none)
    by_cases g : GName x
    · rw [if_pos (decide_eq_true g), if_pos g]; rfl
    · rw [if_neg (by simpa using g), if_neg g]; rfl
  | bin op a b => exact (shape_op (by cases op <;> simp [Op.word]) _ _).trans (by rfl)
  | pick a b c => exact (shape_pick _ _ _).trans (by rfl)
  | cho a ns => exact (shape_cho _ _).trans (by rw [if_pos (choice_ok h.2.1 h.2.2.1 h.2.2.2)]; rfl)
noncomputable def szR (n : Nat) (r : R) : Nat := szN n r.toTh
theorem szR_succ (n : Nat) (r : R) (h : r.Fine) : szR (n + 1) r = match r.kids with | none => 1000 | some ks => 1 + (ks.map (szR n)).sum := by
  show (match shapeT r.toTh with | none => 1000 | some ks => 1 + (ks.map (szN n)).sum) = _
  rw [r.shape h]
  cases r.kids with
  | none => rfl
  | some ks =>
    show 1 + ((ks.map R.toTh).map (szN n)).sum = _
    rw [List.map_map]
    rfl
theorem le_one (c d : Nat) : decide ((⟨#[c]⟩ : Str).cps.toList < (⟨#[d]⟩ : Str).cps.toList) = decide (c < d) := by
  show decide ([c] < [d]) = _
  by_cases h : c < d
  · rw [decide_eq_true h, decide_eq_true]
    exact List.Lex.rel h
  · rw [decide_eq_false h, decide_eq_false]
    intro z
    cases z with
    | rel z => exact h z
    | cons z => cases z
theorem a97 : Str.ofString "a" = ⟨#[97]⟩ := by decide +kernel
theorem z122 : Str.ofString "z" = ⟨#[122]⟩ := by decide +kernel
theorem eqv_nil (ds : List PyData) : PyData.eqv (.list ds) (.list []) = ds.isEmpty := by cases ds <;> rfl
theorem canLay_ones : ∀ l : List Nat, (∀ c ∈ l, c < 128) → PyData.canLayAll0 ((l.map fun c => (⟨#[c]⟩ : Str)).map PyData.str) = true
  | [], _ => by simp [PyData.canLayAll0]
  | c :: r, h => by
    have hr := canLay_ones r fun d hd => h d (List.mem_cons_of_mem _ hd)
    have hc := h c List.mem_cons_self
    have hc' : c < 0x110000 := by omega
    rw [List.map_cons, List.map_cons]
    simp only [PyData.canLayAll0, PyData.canLay0, hr, Bool.and_true]
    simp [PyData.strOk, hc']
theorem depth_strs : ∀ l : List Str, PyData.depthAll (l.map PyData.str) ≤ 1
  | [] => by simp [PyData.depthAll]
  | c :: r => by
    have := depth_strs r
    simp [PyData.depthAll, PyData.depth]
    omega
theorem shaped_ones {l : List Nat} (h : ∀ c ∈ l, c < 128) : SeqAt.shaped (.list ((l.map fun c => (⟨#[c]⟩ : Str)).map PyData.str)) = true := by
  have h1 := canLay_ones l h
  have h2 := depth_strs (l.map fun c => (⟨#[c]⟩ : Str))
  generalize (l.map fun c => (⟨#[c]⟩ : Str)).map PyData.str = ds at h1 h2
  have h4 : (PyData.list ds).depth ≤ 64 := by simp only [PyData.depth]; omega
  have h5 : (PyData.list ds).canLay0 = true := by simp only [PyData.canLay0]; exact h1
  show (_ && decide _) = true
  rw [h5, decide_eq_true h4]; rfl
theorem filter_snoc {l : List Nat} {i c : Nat} (p : Nat → Bool) (h : l[i]? = some c) : (l.take (i + 1)).filter p = (l.take i).filter p ++ (if p c = true then [c] else []) := by
  rw [List.take_succ, h, List.filter_append]
  simp [List.filter_cons]
theorem name_filter {x : Str} (h1 : 1 ≤ x.length) (h2 : x.length ≤ 8) : decide (GName x) = (x.cps.toList.filter fun c => !decide (isLow c)).isEmpty := by
  rw [Bool.eq_iff_iff, decide_eq_true_eq, List.isEmpty_iff, List.filter_eq_nil_iff]
  constructor
  · intro g c hc
    simp [g.2.2 c hc]
  · intro g
    exact ⟨h1, h2, fun c hc => by have := g c hc; simpa using this⟩
end RB

set_option maxRecDepth 100000
namespace L2
open PySem PySem.Spec PyProof.Rows
theorem Fun.okQ {P : Program} {w : World} {K : PySem.W.Frag} {mg : Str → Option Value} {base : Heap} {x qual : Str} {st : Stmt} {f : Addr} {fd : FuncData} {N ps : List Str} {k : Nat} {sp : Sp} (F : Fun K x qual st f fd) (S : FnScope N ps (defScope st)) (len : ∀ vs H Q E, sp vs H Q E → vs.length = ps.length)
    (hbody : ∀ (cdv : Value) (A : Around) (outer : List Env) (s : Shared) (H : Hp) (vs : List V) (Q : VK) (E : XK), Room k (A.deeper (envOfC qual (defScope st) s.heap.objs.size f cdv)) → sp vs H Q E →
      ∃ t, QSs (cxOf CX0 P w K mg base N qual (defScope st) f cdv A outer s H E).nox (defBody st) t ∧ t { nx := fun _ H' => Q .non H', rt := Q } (start N vs) H) : FnOk P w K mg base CX0 (k + 1) f fd ps sp :=
  F.ok S len fun cdv A outer s H vs Q E hr hsp => let ⟨t, a, b⟩ := hbody cdv A outer s H vs Q E hr hsp; ⟨t, a.h, b⟩
end L2
namespace RB
open PySem L2 PySem.Spec PyProof.Rows
/-! ### the parts of a display or a call, by their kinds: the star's row is not reckoned anew for each -/
theorem star_C (value : Const) (k : Nat) (p : Pos) (es : List Expr) (env : Env) : starEach (.Constant value k p :: es) env = (false, eval (.Constant value k p) env) :: starEach es env := rfl
theorem qa_C {X : Cx} {value : Const} {k : Nat} {p : Pos} {es : List Expr} {te : TE} {t : TA} (ha : QE X (.Constant value k p) te) (hr : QA X es t) : QA X (.Constant value k p :: es) (tCons te t) := qa_cons ha hr (star_C value k p _ _)
theorem star_N (x : Str) (p : Pos) (es : List Expr) (env : Env) : starEach (.Name x p :: es) env = (false, eval (.Name x p) env) :: starEach es env := rfl
theorem qa_N {X : Cx} {x : Str} {p : Pos} {es : List Expr} {te : TE} {t : TA} (ha : QE X (.Name x p) te) (hr : QA X es t) : QA X (.Name x p :: es) (tCons te t) := qa_cons ha hr (star_N x p _ _)
theorem star_B (a : Expr) (op : Operator) (b : Expr) (p : Pos) (es : List Expr) (env : Env) : starEach (.BinOp a op b p :: es) env = (false, eval (.BinOp a op b p) env) :: starEach es env := rfl
theorem qa_B {X : Cx} {a : Expr} {op : Operator} {b : Expr} {p : Pos} {es : List Expr} {te : TE} {t : TA} (ha : QE X (.BinOp a op b p) te) (hr : QA X es t) : QA X (.BinOp a op b p :: es) (tCons te t) := qa_cons ha hr (star_B a op b p _ _)
theorem star_K (a : Expr) (ops : List CmpOp) (cs : List Expr) (p : Pos) (es : List Expr) (env : Env) : starEach (.Compare a ops cs p :: es) env = (false, eval (.Compare a ops cs p) env) :: starEach es env := rfl
theorem qa_K {X : Cx} {a : Expr} {ops : List CmpOp} {cs : List Expr} {p : Pos} {es : List Expr} {te : TE} {t : TA} (ha : QE X (.Compare a ops cs p) te) (hr : QA X es t) : QA X (.Compare a ops cs p :: es) (tCons te t) := qa_cons ha hr (star_K a ops cs p _ _)
theorem star_T (xs : List Expr) (k : Nat) (p : Pos) (es : List Expr) (env : Env) : starEach (.Tuple xs k p :: es) env = (false, eval (.Tuple xs k p) env) :: starEach es env := rfl
theorem qa_T {X : Cx} {xs : List Expr} {k : Nat} {p : Pos} {es : List Expr} {te : TE} {t : TA} (ha : QE X (.Tuple xs k p) te) (hr : QA X es t) : QA X (.Tuple xs k p :: es) (tCons te t) := qa_cons ha hr (star_T xs k p _ _)
theorem star_L (xs : List Expr) (p : Pos) (es : List Expr) (env : Env) : starEach (.List xs p :: es) env = (false, eval (.List xs p) env) :: starEach es env := rfl
theorem qa_L {X : Cx} {xs : List Expr} {p : Pos} {es : List Expr} {te : TE} {t : TA} (ha : QE X (.List xs p) te) (hr : QA X es t) : QA X (.List xs p :: es) (tCons te t) := qa_cons ha hr (star_L xs p _ _)
theorem star_D (ks : List (Option Expr)) (xs : List Expr) (p : Pos) (es : List Expr) (env : Env) : starEach (.Dict ks xs p :: es) env = (false, eval (.Dict ks xs p) env) :: starEach es env := rfl
theorem qa_D {X : Cx} {ks : List (Option Expr)} {xs : List Expr} {p : Pos} {es : List Expr} {te : TE} {t : TA} (ha : QE X (.Dict ks xs p) te) (hr : QA X es t) : QA X (.Dict ks xs p :: es) (tCons te t) := qa_cons ha hr (star_D ks xs p _ _)
theorem star_S (a b : Expr) (p : Pos) (es : List Expr) (env : Env) : starEach (.Subscript a b p :: es) env = (false, eval (.Subscript a b p) env) :: starEach es env := rfl
theorem qa_S {X : Cx} {a b : Expr} {p : Pos} {es : List Expr} {te : TE} {t : TA} (ha : QE X (.Subscript a b p) te) (hr : QA X es t) : QA X (.Subscript a b p :: es) (tCons te t) := qa_cons ha hr (star_S a b p _ _)
theorem star_F (f : Expr) (xs : List Expr) (ks : List Keyword) (p : Pos) (es : List Expr) (env : Env) : starEach (.Call f xs ks p :: es) env = (false, eval (.Call f xs ks p) env) :: starEach es env := rfl
theorem qa_F {X : Cx} {f : Expr} {xs : List Expr} {ks : List Keyword} {p : Pos} {es : List Expr} {te : TE} {t : TA} (ha : QE X (.Call f xs ks p) te) (hr : QA X es t) : QA X (.Call f xs ks p :: es) (tCons te t) := qa_cons ha hr (star_F f xs ks p _ _)
theorem star_O (op : BoolOp) (xs : List Expr) (p : Pos) (es : List Expr) (env : Env) : starEach (.BoolOp op xs p :: es) env = (false, eval (.BoolOp op xs p) env) :: starEach es env := rfl
theorem qa_O {X : Cx} {op : BoolOp} {xs : List Expr} {p : Pos} {es : List Expr} {te : TE} {t : TA} (ha : QE X (.BoolOp op xs p) te) (hr : QA X es t) : QA X (.BoolOp op xs p :: es) (tCons te t) := qa_cons ha hr (star_O op xs p _ _)
theorem star_M (e : Expr) (gs : List Comprehension) (sc : Scope) (p : Pos) (es : List Expr) (env : Env) : starEach (.ListComp e gs sc p :: es) env = (false, eval (.ListComp e gs sc p) env) :: starEach es env := rfl
theorem qa_M {X : Cx} {e : Expr} {gs : List Comprehension} {sc : Scope} {p : Pos} {es : List Expr} {te : TE} {t : TA} (ha : QE X (.ListComp e gs sc p) te) (hr : QA X es t) : QA X (.ListComp e gs sc p :: es) (tCons te t) := qa_cons ha hr (star_M e gs sc p _ _)
end RB

set_option maxRecDepth 100000
namespace RB
open PySem L2 PySem.Spec PyProof.Rows
/-! ### a list held against [] -/
noncomputable def rEqNil (K : PySem.W.Frag) : R2 := fun x y H Q => ∃ a b xs, x = .ref a ∧ y = .ref b ∧ SqL K H a xs ∧ SqL K H b [] ∧ Q (.bl xs.isEmpty) H
theorem op_eqNil {X : Cx} (hu : X.A.units + 64 < cLine) : OpR X (compareOp .Eq) (rEqNil X.K) := by
  intro pins s σ H x y v u Q I rx ry h
  obtain ⟨a, b, xs, rfl, rfl, ha, hb, q⟩ := h
  cases xs with
  | nil => exact op_eqD hu pins s σ H _ _ v u Q I rx ry ⟨.list [], .list [], .lst ha .nil, .lst hb .nil, shaped_ints [], shaped_ints [], q⟩
  | cons x r =>
    cases rx
    cases ry
    obtain ⟨its, rv, pl, _⟩ := I.list ha
    obtain ⟨its', rv', pl', _⟩ := I.list hb
    cases rv
    cases rv'
    exact PySem.SeqAt.eq_list_lengthsAt pl.isList pl'.isList rfl (by omega) ⟨.bl false, H, I, rfl, q⟩
theorem qop_eqNil {X : Cx} (hu : X.A.units + 64 < cLine) : QOp X (compareOp .Eq) (rEqNil X.K) := ⟨op_eqNil hu⟩
theorem qe_dnewK {X : Cx} {pos : Pos} : QE X (.Dict [] [] pos) tDNewK := ⟨pe_dnewK⟩
theorem op_isB {X : Cx} : OpR X (compareOp .Is) (fun x y H Q => ∃ a b, x = .bl a ∧ y = .bl b ∧ Q (.bl (decide (a = b))) H) := by
  intro pins s σ H x y v u Q I rx ry h
  obtain ⟨a, b, rfl, rfl, q⟩ := h
  cases rx
  cases ry
  exact wpAny_is_plain (by cases a <;> cases b <;> rfl) (fin_bl I q (by cases a <;> cases b <;> rfl))
theorem qop_isB {X : Cx} : QOp X (compareOp .Is) (fun x y H Q => ∃ a b, x = .bl a ∧ y = .bl b ∧ Q (.bl (decide (a = b))) H) := ⟨op_isB⟩
theorem op_notB {X : Cx} : OpR X (compareOp .IsNot) (fun x y H Q => ∃ a b, x = .bl a ∧ y = .bl b ∧ Q (.bl (!decide (a = b))) H) := by
  intro pins s σ H x y v u Q I rx ry h
  obtain ⟨a, b, rfl, rfl, q⟩ := h
  cases rx
  cases ry
  exact wpAny_isNot_plain (by cases a <;> cases b <;> rfl) (fin_bl I q (by cases a <;> cases b <;> rfl))
theorem qop_notB {X : Cx} : QOp X (compareOp .IsNot) (fun x y H Q => ∃ a b, x = .bl a ∧ y = .bl b ∧ Q (.bl (!decide (a = b))) H) := ⟨op_notB⟩
noncomputable def rRepT2 (K : PySem.W.Frag) : R2 := fun x y H Q => ∃ a k xs, x = .ref a ∧ y = .int k ∧ H a = some (.tup xs) ∧ xs ≠ [] ∧ -(2 ^ 63) ≤ k ∧ k < 2 ^ 63 ∧ xs.length * k.toNat ≤ sizeLine ∧
  ∀ p H', Same H H' → H' p = some (.tup (List.replicate k.toNat xs).flatten) → Q (.ref p) H'
theorem qop_repT2 {X : Cx} : QOp X (binaryOp .Mult) (rRepT2 X.K) := ⟨fun pins s σ H x y v u Q I rx ry h => by
  obtain ⟨a, k, xs, h1, h2, e, h4, h5, h6, h7, q⟩ := h
  exact op_repT pins s σ H x y v u Q I rx ry ⟨a, k, xs, h1, h2, SqT.of e, h4, h5, h6, h7, fun z => q a H (Same.refl _) (by subst z; rw [e]; simp), fun _ p hp => q p _ (same_new _ hp) upd_same⟩⟩
noncomputable def rCatT2 (K : PySem.W.Frag) : R2 := fun x y H Q => ∃ a b xs ys, x = .ref a ∧ y = .ref b ∧ H a = some (.tup xs) ∧ H b = some (.tup ys) ∧ xs ≠ [] ∧ xs.length + ys.length ≤ sizeLine ∧
  ∀ p H', Same H H' → H' p = some (.tup (xs ++ ys)) → Q (.ref p) H'
theorem qop_catT2 {X : Cx} : QOp X (binaryOp .Add) (rCatT2 X.K) := ⟨fun pins s σ H x y v u Q I rx ry h => by
  obtain ⟨a, b, xs, ys, h1, h2, e, e2, h4, h5, q⟩ := h
  exact op_catT pins s σ H x y v u Q I rx ry ⟨a, b, xs, ys, h1, h2, SqT.of e, SqT.of e2, h4, h5, fun z => q a H (Same.refl _) (by subst z; rw [e]; simp), fun _ p hp => q p _ (same_new _ hp) upd_same⟩⟩

/-! ### things whose texts are short and plain -/
inductive AscT : Th → Prop where
  | non : AscT .non
  | bl (b : Bool) : AscT (.bl b)
  | int (i : Int) : AscT (.int i)
  | str {x : Str} (h : x.length ≤ 1000) (h2 : ∀ c ∈ x.cps.toList, c < 128) : AscT (.str x)
  | tup {ts : List Th} (hl : ts.length ≤ 1000) (h : ∀ t ∈ ts, AscT t) : AscT (.tup ts)
  | oth (T : String) : AscT (.oth T)
theorem AscT.short {t : Th} (h : AscT t) : ShortT t := by
  induction h with
  | non => exact .non
  | bl b => exact .bl b
  | int i => exact .int i
  | str h _ => exact .str (Nat.le_of_lt (small1000 h))
  | tup _ _ ih => exact .tup ih
  | oth T => exact .oth T
theorem AscT.of {ts : List Th} (h : AscT (.tup ts)) : ∀ t ∈ ts, AscT t := by cases h; assumption
theorem AscT.text {x : Str} (h : AscT (.str x)) : x.length ≤ 1000 ∧ ∀ c ∈ x.cps.toList, c < 128 := by cases h; exact ⟨by assumption, by assumption⟩
noncomputable def ascS (x : Str) : Bool := decide (x.length ≤ 1000) && x.cps.toList.all (fun c => decide (c < 128))
theorem AscT.lit {x : Str} (h : ascS x = true) : AscT (.str x) := by
  unfold ascS at h
  rw [Bool.and_eq_true, List.all_eq_true] at h
  exact .str (of_decide_eq_true h.1) fun c hc => of_decide_eq_true (h.2 c hc)
theorem AscT.name {x : Str} (h : GName x) : AscT (.str x) := .str (by have := h.2.1; omega) fun c hc => by have := h.2.2 c hc; unfold isLow at this; omega
theorem AscT.kid {t : Th} {ks : List Th} (h : shapeT t = some ks) (a : AscT t) : ∀ k ∈ ks, AscT k := by
  rcases shape_inv h with ⟨x, rfl, rfl⟩ | ⟨x, rfl, rfl⟩ | ⟨x, y, rfl, rfl⟩ | ⟨k, x, y, _, rfl, rfl⟩ | ⟨x, y, z, rfl, rfl⟩
  · simp
  · simp
  · intro k hk; exact a.of k (by simp at hk; simp [hk])
  · intro k' hk; exact a.of k' (by simp at hk; rcases hk with rfl | rfl <;> simp)
  · intro k' hk; exact a.of k' (by simp at hk; rcases hk with rfl | rfl | rfl <;> simp)
theorem R.asc : ∀ (r : R), r.Good → AscT r.toTh
  | .num n, _ => .tup (Nat.le_of_ble_eq_true rfl) fun t ht => by
    rcases List.mem_cons.mp ht with rfl | ht
    · exact .lit (by decide +kernel)
    · have : t = .int n := by simpa using ht
      subst this; exact .int n
  | .rd x, h => .tup (Nat.le_of_ble_eq_true rfl) fun t ht => by
    rcases List.mem_cons.mp ht with rfl | ht
    · exact .lit (by decide +kernel)
    · have : t = .str x := by simpa using ht
      subst this; exact .name h
  | .bin op a b, h => .tup (Nat.le_of_ble_eq_true rfl) fun t ht => by
    rcases List.mem_cons.mp ht with rfl | ht
    · exact .lit (by cases op <;> decide +kernel)
    · rcases List.mem_cons.mp ht with rfl | ht
      · exact R.asc a h.1
      · have : t = b.toTh := by simpa using ht
        subst this; exact R.asc b h.2
  | .pick a b c, h => .tup (Nat.le_of_ble_eq_true rfl) fun t ht => by
    rcases List.mem_cons.mp ht with rfl | ht
    · exact .lit (by decide +kernel)
    · rcases List.mem_cons.mp ht with rfl | ht
      · exact R.asc a h.1
      · rcases List.mem_cons.mp ht with rfl | ht
        · exact R.asc b h.2.1
        · have : t = c.toTh := by simpa using ht
          subst this; exact R.asc c h.2.2
  | .cho a ns, h => .tup (Nat.le_of_ble_eq_true rfl) fun t ht => by
    rcases List.mem_cons.mp ht with rfl | ht
    · exact .lit (by decide +kernel)
    · rcases List.mem_cons.mp ht with rfl | ht
      · exact R.asc a h.1
      · have : t = .tup (ns.map Th.str) := by simpa using ht
        subst this
        refine .tup (by rw [List.length_map]; have := h.2.2.1; omega) fun t ht => ?_
        obtain ⟨x, hx, rfl⟩ := List.mem_map.mp ht
        exact .name (h.2.2.2 x hx)

/-! ### things while the lists at S may be changed -/
mutual
inductive Tg (S : List Addr) (H : Hp) : V → Th → Prop where
  | non : Tg S H .non .non
  | bl (b : Bool) : Tg S H (.bl b) (.bl b)
  | int (i : Int) : Tg S H (.int i) (.int i)
  | str (x : Str) : Tg S H (.str x) (.str x)
  | tup {a : Addr} {vs : List V} {ts : List Th} (e : H a = some (.tup vs)) (h : Tgs S H vs ts) : Tg S H (.ref a) (.tup ts)
  | lst {a : Addr} {xs : List V} (e : H a = some (.lst xs)) (h : a ∉ S) : Tg S H (.ref a) (.oth "list")
  | dic {a : Addr} {kvs : List (Key × V)} (e : H a = some (.dK kvs)) (h : a ∉ S) : Tg S H (.ref a) (.oth "dict")
inductive Tgs (S : List Addr) (H : Hp) : List V → List Th → Prop where
  | nil : Tgs S H [] []
  | cons {v : V} {t : Th} {vs : List V} {ts : List Th} (h : Tg S H v t) (r : Tgs S H vs ts) : Tgs S H (v :: vs) (t :: ts)
end
mutual
theorem Tg.isTh {K : PySem.W.Frag} {S : List Addr} {H : Hp} : ∀ {v : V} {t : Th}, Tg S H v t → IsTh K H v t
  | _, _, .non => .non
  | _, _, .bl b => .bl b
  | _, _, .int i => .int i
  | _, _, .str x => .str x
  | _, _, .tup e h => .tup e (Tgs.isThs h)
  | _, _, .lst e _ => .oth (.lst e) (.inl rfl) fun _ s => .lst (s _ _ e)
  | _, _, .dic e _ => .oth (.dK e) (.inr rfl) fun _ s => .dK (s _ _ e)
theorem Tgs.isThs {K : PySem.W.Frag} {S : List Addr} {H : Hp} : ∀ {vs : List V} {ts : List Th}, Tgs S H vs ts → IsThs K H vs ts
  | _, _, .nil => .nil
  | _, _, .cons h r => .cons (Tg.isTh h) (Tgs.isThs r)
end
mutual
theorem Tg.but {S : List Addr} {H H' : Hp} (b : But S H H') (t : Tups H H') : ∀ {v : V} {x : Th}, Tg S H v x → Tg S H' v x
  | _, _, .non => .non
  | _, _, .bl b => .bl b
  | _, _, .int i => .int i
  | _, _, .str x => .str x
  | _, _, .tup e h => .tup (t _ _ e) (Tgs.but b t h)
  | _, _, .lst e n => .lst (b _ _ n e) n
  | _, _, .dic e n => .dic (b _ _ n e) n
theorem Tgs.but {S : List Addr} {H H' : Hp} (b : But S H H') (t : Tups H H') : ∀ {vs : List V} {xs : List Th}, Tgs S H vs xs → Tgs S H' vs xs
  | _, _, .nil => .nil
  | _, _, .cons h r => .cons (Tg.but b t h) (Tgs.but b t r)
end
theorem Tg.same {S : List Addr} {H H' : Hp} (s : Same H H') {v : V} {x : Th} (h : Tg S H v x) : Tg S H' v x := h.but (But.of_same s) (Same.tups s)
theorem tgs_strs {S : List Addr} {H : Hp} : ∀ ns : List Str, Tgs S H (ns.map V.str) (ns.map Th.str)
  | [] => .nil
  | x :: r => .cons (.str x) (tgs_strs r)
theorem IsR.tg {S : List Addr} {H : Hp} {a : Addr} {r : R} (h : IsR H a r) : Tg S H (.ref a) r.toTh := by
  induction h with
  | num e => exact .tup e (.cons (.str _) (.cons (.int _) .nil))
  | rd e => exact .tup e (.cons (.str _) (.cons (.str _) .nil))
  | bin e _ _ i1 i2 => exact .tup e (.cons (.str _) (.cons i1 (.cons i2 .nil)))
  | pick e _ _ _ i1 i2 i3 => exact .tup e (.cons (.str _) (.cons i1 (.cons i2 (.cons i3 .nil))))
  | cho e _ h2 i1 => exact .tup e (.cons (.str _) (.cons i1 (.cons (.tup h2 (tgs_strs _)) .nil)))
/-- a thing that is short and plain -/
noncomputable def Ok (S : List Addr) (H : Hp) (v : V) : Prop := ∃ t, Tg S H v t ∧ AscT t
theorem Ok.same {S : List Addr} {H H' : Hp} (s : Same H H') {v : V} (h : Ok S H v) : Ok S H' v := by obtain ⟨t, a, b⟩ := h; exact ⟨t, a.same s, b⟩
theorem Ok.but {S : List Addr} {H H' : Hp} (b : But S H H') (t : Tups H H') {v : V} (h : Ok S H v) : Ok S H' v := by obtain ⟨x, a, c⟩ := h; exact ⟨x, a.but b t, c⟩
theorem Ok.non {S : List Addr} {H : Hp} : Ok S H .non := ⟨_, .non, .non⟩
theorem Ok.bl {S : List Addr} {H : Hp} (b : Bool) : Ok S H (.bl b) := ⟨_, .bl b, .bl b⟩
theorem Ok.int {S : List Addr} {H : Hp} (i : Int) : Ok S H (.int i) := ⟨_, .int i, .int i⟩
theorem Ok.str {S : List Addr} {H : Hp} {x : Str} (h : ascS x = true) : Ok S H (.str x) := ⟨_, .str x, .lit h⟩
theorem Ok.all {S : List Addr} {H : Hp} : ∀ {vs : List V}, (∀ v ∈ vs, Ok S H v) → ∃ ts, Tgs S H vs ts ∧ ∀ t ∈ ts, AscT t
  | [], _ => ⟨[], .nil, by simp⟩
  | v :: r, h => by
    obtain ⟨t, a, b⟩ := h v (by simp)
    obtain ⟨ts, c, d⟩ := Ok.all fun x hx => h x (List.mem_cons_of_mem _ hx)
    exact ⟨t :: ts, .cons a c, fun x hx => (List.mem_cons.mp hx).elim (fun z => by subst z; exact b) fun z => d x z⟩
theorem Tgs.length {S : List Addr} {H : Hp} : ∀ {vs : List V} {ts : List Th}, Tgs S H vs ts → vs.length = ts.length
  | _, _, .nil => rfl
  | _, _, .cons _ r => congrArg (· + 1) (Tgs.length r)
theorem Ok.tup {S : List Addr} {H : Hp} {a : Addr} {vs : List V} (e : H a = some (.tup vs)) (hl : vs.length ≤ 1000) (h : ∀ v ∈ vs, Ok S H v) : Ok S H (.ref a) := by
  obtain ⟨ts, c, d⟩ := Ok.all h
  exact ⟨.tup ts, .tup e c, .tup (by rw [← c.length]; exact hl) d⟩
theorem Ok.lst {S : List Addr} {H : Hp} {a : Addr} {xs : List V} (e : H a = some (.lst xs)) (h : a ∉ S) : Ok S H (.ref a) := ⟨_, .lst e h, .oth _⟩
theorem Ok.dic {S : List Addr} {H : Hp} {a : Addr} {kvs : List (Key × V)} (e : H a = some (.dK kvs)) (h : a ∉ S) : Ok S H (.ref a) := ⟨_, .dic e h, .oth _⟩
theorem IsR.ok {S : List Addr} {H : Hp} {a : Addr} {r : R} (h : IsR H a r) (g : r.Good) : Ok S H (.ref a) := ⟨_, h.tg, r.asc g⟩
noncomputable def All (S : List Addr) (H : Hp) (vs : List V) : Prop := ∀ v ∈ vs, Ok S H v
theorem All.nil {S : List Addr} {H : Hp} : All S H [] := fun _ h => by simp at h
theorem All.cons {S : List Addr} {H : Hp} {v : V} {vs : List V} (a : Ok S H v) (b : All S H vs) : All S H (v :: vs) := fun x hx => (List.mem_cons.mp hx).elim (fun z => by subst z; exact a) fun z => b x z
theorem All.append {S : List Addr} {H : Hp} {vs ws : List V} (a : All S H vs) (b : All S H ws) : All S H (vs ++ ws) := fun x hx => (List.mem_append.mp hx).elim (fun z => a x z) fun z => b x z
theorem All.same {S : List Addr} {H H' : Hp} (s : Same H H') {vs : List V} (h : All S H vs) : All S H' vs := fun v hv => (h v hv).same s

/-! ### how many recipes -/
noncomputable def R.nodes : R → Nat
  | .num _ => 1
  | .rd _ => 1
  | .bin _ a b => 1 + a.nodes + b.nodes
  | .pick a b c => 1 + a.nodes + b.nodes + c.nodes
  | .cho a _ => 1 + a.nodes
theorem good_fine : ∀ {r : R}, r.Good → r.Fine
  | .num _, _ => trivial
  | .rd x, h => ⟨h.2.1, fun c hc => by have := h.2.2 c hc; unfold isLow at this; omega⟩
  | .bin _ a b, h => ⟨good_fine h.1, good_fine h.2⟩
  | .pick a b c, h => ⟨good_fine h.1, good_fine h.2.1, good_fine h.2.2⟩
  | .cho a ns, h => ⟨good_fine h.1, h.2⟩
theorem szR_nodes : ∀ (n : Nat) (r : R), r.Good → r.depth ≤ n → szR n r = r.nodes
  | 0, r, _, hd => absurd r.depth_pos (by omega)
  | n + 1, r, h, hd => by
    rw [szR_succ n r (good_fine h)]
    cases r with
    | num _ => rfl
    | rd x =>
      show (match (if GName x then some [] else none : Option (List R)) with | none => 1000 | some ks => 1 + (ks.map (szR n)).sum) = 1
      rw [if_pos (show GName x from h)]; rfl
    | bin op a b =>
      have hd' : max a.depth b.depth + 1 ≤ n + 1 := hd
      show 1 + ([a, b].map (szR n)).sum = 1 + a.nodes + b.nodes
      simp [szR_nodes n a h.1 (by omega), szR_nodes n b h.2 (by omega)]
      omega
    | pick a b c =>
      have hd' : max a.depth (max b.depth c.depth) + 1 ≤ n + 1 := hd
      show 1 + ([a, b, c].map (szR n)).sum = 1 + a.nodes + b.nodes + c.nodes
      simp [szR_nodes n a h.1 (by omega), szR_nodes n b h.2.1 (by omega), szR_nodes n c h.2.2 (by omega)]
      omega
    | cho a ns =>
      have hd' : a.depth + 1 ≤ n + 1 := hd
      show 1 + ([a].map (szR n)).sum = 1 + a.nodes
      simp [szR_nodes n a h.1 (by omega)]
/-! ### contracts of the law's own words over any thing -/
noncomputable def spRec2 (m : Nat) : Sp := fun vs H Q _ => ∃ d c l deep k, vs = [.ref d, .int deep, .ref l] ∧ DeckAt H d c ∧ H l = some (.lst [.int k]) ∧ l ≠ d ∧ l ≠ c ∧ 1 ≤ deep ∧ deep ≤ m ∧
  ∀ a r k' H', r.Good → r.depth ≤ m → ((r.nodes : Int) = k - k' ∧ (1 ≤ k → -(2 * ((m : Int) - 1)) ≤ k') ∧ (k < 1 → k' = k - 1)) → But [d, c, l] H H' → DeckAt H' d c → H' l = some (.lst [.int k']) → IsR H' a r → Q (.ref a) H'
noncomputable def idxs : Nat → List V
  | 0 => []
  | 1 => [.int 1]
  | 2 => [.int 1, .int 2]
  | _ => [.int 1, .int 2, .int 3]
noncomputable def SpotsIs (H0 H : Hp) (o : Option (List Th)) (x : V) : Prop := match o with
  | none => x = .non
  | some ks => ∃ p, x = .ref p ∧ H0 p = none ∧ H p = some (.lst (idxs ks.length))
noncomputable def spLNameT (K : PySem.W.Frag) : Sp := fun vs H Q _ => ∃ v t, vs = [v] ∧ IsTh K H v t ∧ AscT t ∧ ∀ H', Same H H' → Q (.bl (nameT t)) H'
noncomputable def spSpotsT (K : PySem.W.Frag) : Sp := fun vs H Q _ => ∃ v t, vs = [v] ∧ IsTh K H v t ∧ AscT t ∧ ∀ x H', Same H H' → SpotsIs H H' (shapeT t) x → Q x H'
noncomputable def spSizeT (K : PySem.W.Frag) (n : Nat) : Sp := fun vs H Q _ => ∃ v t d, vs = [v, .int d] ∧ IsTh K H v t ∧ AscT t ∧ 1 ≤ d ∧ d + n = 9 ∧ ∀ H', Same H H' → Q (.int (szN n t)) H'
noncomputable def spLIsT (K : PySem.W.Frag) : Sp := fun vs H Q _ => ∃ v t, vs = [v] ∧ IsTh K H v t ∧ AscT t ∧ ∀ H', Same H H' → Q (.bl (decide (szN 8 t ≤ 100))) H'
end RB

set_option maxRecDepth 100000
namespace L2
open PySem PySem.Spec PyProof.Rows
section
variable {X : Cx} {pins : List (Addr × Obj)} {σ : L2.St} {H : Hp} {s : Shared}
/-! ### texts: startswith from a place, a slice, the number that is written -/
end
/-! ### own objects -/
section
variable {X : Cx} {o e value : Expr} {es : List Expr} {f m : Str} {pos pos' apos : Pos} {ta tv : TE} {t : TA} {C fa : Addr} {CX : CXT} {k : Nat} {fd : FuncData} {ps : List Str} {sp : Sp} {dvs : List V} {ds : List Value} {E : XK}
end
end L2

set_option maxRecDepth 100000
namespace L2
open PySem PySem.Spec PyProof.Rows
/-! ### an exception that flies -/
section
variable {X : Cx} {pins : List (Addr × Obj)} {σ : St} {H H' : Hp} {s s' : Shared} {a : Addr} {cls : Value}
end
section
variable {P : Program} {w : World} {K : PySem.W.Frag} {mg : Str → Option Value} {base : Heap} {N : List Str} {qual : Str} {scope : Scope} {f : Addr} {cd : Value} {A : Around} {outer : List Env} {s₀ : Shared} {H₀ : Hp} {E : XK}
end
end L2

set_option maxRecDepth 100000
namespace L2
open PySem PySem.Spec PyProof.Rows
section
variable {X : Cx} {pins : List (Addr × Obj)} {σ : St} {H H' : Hp} {s s' : Shared} {a : Addr} {cls : Value}
/-! ### try -/
/-- an object that stands is tracked from here on -/
theorem Inv.track {o : HO} (I : Inv X pins σ H s) (hn : H a = none) (h0 : X.s₀.heap.get? a = none) (hL : a ≠ X.env.locals) (hC : ∀ x c, X.env.cells.lookup x = some c → c ≠ a) (hp : ∀ p ∈ X.pn ++ pins, p.1 ≠ a)
    (new : ObjOk X.prog X.w (upd H a o) s.heap a o) : Inv X pins σ (upd H a o) s := by
  refine ⟨I.ok, I.os, I.bare, ⟨fun b u q n hb hx => I.base.keep b u q n hb hx, fun b u q n hb hx => I.base.slot b u q n hb hx, fun b u q n hx => ?_, I.base.there, fun b xs q => ?_, fun b u v q => ?_, fun b ps q => ?_⟩, I.loc, I.cell, ?_, fun x c e => ?_, fun p q => ?_, fun b u q => ?_, I.len⟩
  · rw [upd_ne (fun z => by rw [z, h0] at q; cases q)]; exact I.base.free b u q n hx
  · have e := I.base.tups b xs q
    rw [upd_ne (ne_of_none e hn)]; exact e
  · have e := I.base.frzs b u v q
    rw [upd_ne (ne_of_none e hn)]; exact e
  · obtain ⟨m, e⟩ := I.base.tbls b ps q
    exact ⟨m, by rw [upd_ne (ne_of_none e hn)]; exact e⟩
  · rw [upd_ne (Ne.symm hL)]; exact I.free
  · rw [upd_ne (hC x c e)]; exact I.freeC x c e
  · obtain ⟨e, n, r⟩ := I.pin p q
    exact ⟨e, by rw [upd_ne (hp p q)]; exact n, r⟩
  · by_cases hb : b = a
    · subst hb; rw [upd_same] at q; cases q; exact new
    · rw [upd_ne hb] at q
      exact (I.hok b u q).stay (fun c v _ r => r) (fun c r => by rw [upd_ne (ne_of_none r hn)]; exact r) fun c xs r => by rw [upd_ne (ne_of_none r hn)]; exact r
end
section
variable {X : Cx} {x n : Str} {i : Nat} {C : Addr} {np hpos pos : Pos} {body suite : List Stmt} {b₀ : Stmt} {tb : (St → XK) → TS} {th : TS}
end
end L2

set_option maxRecDepth 100000
namespace L2
open PySem PySem.Spec PyProof.Rows PySem.W
section
variable {prog : Program} {w : World} {A : Around} {E : Value → Shared → Prop} {h : Heap} {g : Array GenState} {d : Drawn} {t : Nat} {os : OsState} {K : PySem.W.Frag} {a C : Addr} {o : Obj}
end
end L2

set_option maxRecDepth 100000
namespace L2
open PySem PySem.Spec PyProof.Rows
section
variable {X : Cx} {pins : List (Addr × Obj)} {σ : St} {H H' : Hp} {s s' : Shared}
/-! ### f"{x!r} .." of a short text: some text -/
end
/-! ### defs that raise; calls in a try's body -/
section
variable {P : Program} {w : World} {K : PySem.W.Frag} {mg : Str → Option Value} {base : Heap} {N : List Str} {qual : Str} {scope : Scope} {f : Addr} {cd : Value} {A : Around} {outer : List Env} {s₀ : Shared} {H₀ : Hp} {E : XK}
end
section
variable {X : Cx} {CX : CXT} {k : Nat} {f : Addr} {fd : FuncData} {ps : List Str} {sp : Sp} {dvs : List V} {ds : List Value} {E : St → XK} {x : Str} {p pos : Pos} {e : Expr} {es : List Expr} {t : TA}
end
end L2
namespace RB
open PySem L2 PySem.Spec PyProof.Rows
end RB

set_option maxRecDepth 100000
namespace RB
open PySem L2 PySem.Spec PyProof.Rows
/-! ### a set of texts -/
section
variable {prog : Program} {w : World} {A : Around} {R : Result → Shared → Prop} {I : Addr} {fp wr : List Addr} {G : Array GenState → Array GenState → Prop} {n : Nat} {P : Nat → Value → Prop} {St : Nat → Shared → Prop}
end
end RB

set_option maxRecDepth 100000
namespace RB
open PySem L2 PySem.Spec PyProof.Rows
section
variable {prog : Program} {w : World} {A : Around} {E : Value → Shared → Prop} {s : Shared}
end
end RB

set_option maxRecDepth 100000
namespace RB
open PySem L2 PySem.Spec PyProof.Rows
/-! ### a set of texts that may be gone through -/
section
variable {prog : Program} {w : World} {A : Around} {E : Value → Shared → Prop} {s : Shared}
end
end RB

set_option maxRecDepth 100000
namespace RB
open PySem L2 PySem.Spec PyProof.Rows
section
variable {prog : Program} {w : World} {A : Around} {R : Result → Shared → Prop} {I : Addr} {fp wr : List Addr} {G : Array GenState → Array GenState → Prop} {n : Nat} {P : Nat → Value → Prop} {St : Nat → Shared → Prop}
end
section
variable {prog : Program} {w : World} {A : Around} {E : Value → Shared → Prop} {s : Shared}
end
end RB

set_option maxRecDepth 100000
namespace RB
open PySem L2 PySem.Spec PyProof.Rows
namespace SI
end SI
section
variable {prog : Program} {w : World} {A : Around} {E : Value → Shared → Prop} {s : Shared}
end
end RB

set_option maxRecDepth 100000
namespace RB
open PySem L2 PySem.Spec PyProof.Rows
namespace SI
end SI
section
variable {prog : Program} {w : World} {A : Around} {E : Value → Shared → Prop} {s : Shared}
end
end RB

set_option maxRecDepth 100000
namespace RB
open PySem L2 PySem.Spec PyProof.Rows
section
variable {prog : Program} {w : World} {A : Around} {E : Value → Shared → Prop} {s : Shared}
end
end RB

set_option maxRecDepth 100000
namespace RB
open PySem L2 PySem.Spec PyProof.Rows
section
variable {prog : Program} {w : World} {A : Around} {E : Value → Shared → Prop} {s : Shared}
end
end RB

set_option maxRecDepth 100000
namespace TS
open PySem PyProof.Rows
/-! ### sorted of any length: galloping -/
section
variable {prog : Program} {w : World} {A : Around} {E : Value → Shared → Prop} {s : Shared}
end
end TS

set_option maxRecDepth 100000
namespace TS
open PySem PyProof.Rows
/-! ### merging two runs, the lower first -/
end TS

set_option maxRecDepth 100000
namespace TS
open PySem PyProof.Rows
section
variable {κ : PyProof.Rows.KeyKind}
end
end TS

set_option maxRecDepth 100000
namespace TS
open PySem PyProof.Rows
section
variable {prog : Program} {w : World} {A : Around} {E : Value → Shared → Prop} {s : Shared} {κ : PyProof.Rows.KeyKind}
end
end TS

set_option maxRecDepth 100000
namespace TS
open PySem PyProof.Rows
section
variable {prog : Program} {w : World} {A : Around} {E : Value → Shared → Prop} {s : Shared} {κ : PyProof.Rows.KeyKind}
end
end TS

set_option maxRecDepth 100000
namespace TS
open PySem PyProof.Rows
section
variable {prog : Program} {w : World} {A : Around} {E : Value → Shared → Prop} {s : Shared} {κ : PyProof.Rows.KeyKind} {a b r : Array Keyed} {i j : Nat} {st st' : SortSt}
end
end TS

set_option maxRecDepth 100000
namespace TS
open PySem PyProof.Rows
section
variable {prog : Program} {w : World} {A : Around} {E : Value → Shared → Prop} {s : Shared} {κ : PyProof.Rows.KeyKind} {a b r : Array Keyed} {i j : Nat} {st st' : SortSt}
end
end TS

set_option maxRecDepth 100000
namespace TS
open PySem PyProof.Rows
section
variable {prog : Program} {w : World} {A : Around} {E : Value → Shared → Prop} {s : Shared} {κ : PyProof.Rows.KeyKind} {a b r : Array Keyed} {i j : Nat} {st st' : SortSt}
end
end TS

set_option maxRecDepth 100000
namespace TS
open PySem PyProof.Rows
/-! ### the order turned about -/
section
variable {κ : PyProof.Rows.KeyKind}
end
/-! ### merging two runs, the upper first -/
end TS

set_option maxRecDepth 100000
namespace TS
open PySem PyProof.Rows
end TS

set_option maxRecDepth 100000
namespace TS
open PySem PyProof.Rows
section
variable {κ : PyProof.Rows.KeyKind} {a b r : Array Keyed} {i j : Nat}
end
end TS

set_option maxRecDepth 100000
namespace TS
open PySem PyProof.Rows
section
variable {prog : Program} {w : World} {A : Around} {E : Value → Shared → Prop} {s : Shared} {κ : PyProof.Rows.KeyKind} {a b r : Array Keyed} {i j : Nat} {st st' : SortSt}
end
end TS

set_option maxRecDepth 100000
namespace TS
open PySem PyProof.Rows
section
variable {prog : Program} {w : World} {A : Around} {E : Value → Shared → Prop} {s : Shared} {κ : PyProof.Rows.KeyKind} {a b r : Array Keyed} {i j : Nat} {st st' : SortSt}
end
end TS

set_option maxRecDepth 100000
namespace TS
open PySem PyProof.Rows
/-! ### two neighbouring runs made one -/
end TS

set_option maxRecDepth 100000
namespace TS
open PySem PyProof.Rows
section
variable {prog : Program} {w : World} {A : Around} {E : Value → Shared → Prop} {s : Shared} {κ : PyProof.Rows.KeyKind} {st : SortSt}
end
end TS

set_option maxRecDepth 100000
namespace TS
open PySem PyProof.Rows
section
variable {prog : Program} {w : World} {A : Around} {E : Value → Shared → Prop} {s : Shared} {κ : PyProof.Rows.KeyKind} {st : SortSt}
end
end TS

set_option maxRecDepth 100000
namespace TS
open PySem PyProof.Rows
/-! ### a stretch that begins at `b` -/
section
variable {prog : Program} {w : World} {A : Around} {E : Value → Shared → Prop} {s : Shared} {κ : PyProof.Rows.KeyKind} {a₀ : Array Keyed} {p₀ : Array (Nat × Nat × Nat)} {b : Nat} {st : SortSt}
end
end TS

set_option maxRecDepth 100000
namespace TS
open PySem PyProof.Rows
/-! ### the run that begins at `b`, in own words -/
end TS

set_option maxRecDepth 100000
namespace TS
open PySem PyProof.Rows
section
variable {prog : Program} {w : World} {A : Around} {E : Value → Shared → Prop} {s : Shared} {κ : PyProof.Rows.KeyKind} {a₀ : Array Keyed} {p₀ : Array (Nat × Nat × Nat)} {b : Nat} {st : SortSt}
end
end TS

set_option maxRecDepth 100000
namespace TS
open PySem PyProof.Rows
/-! ### the runs that wait, side by side -/
section
variable {prog : Program} {w : World} {A : Around} {E : Value → Shared → Prop} {s : Shared} {κ : PyProof.Rows.KeyKind} {a₀ : Array Keyed} {st : SortSt} {Rs : List (List Keyed)} {S : List Keyed}
end
end TS

set_option maxRecDepth 100000
namespace TS
open PySem PyProof.Rows
section
variable {prog : Program} {w : World} {A : Around} {E : Value → Shared → Prop} {s : Shared} {κ : PyProof.Rows.KeyKind} {a₀ : Array Keyed} {st : SortSt} {Rs : List (List Keyed)} {S : List Keyed}
end
end TS

set_option maxRecDepth 100000
namespace TS
open PySem PyProof.Rows
section
variable {prog : Program} {w : World} {A : Around} {E : Value → Shared → Prop} {s : Shared} {κ : PyProof.Rows.KeyKind} {a₀ : Array Keyed} {st : SortSt} {Rs : List (List Keyed)} {S : List Keyed}
end
end TS

set_option maxRecDepth 100000
namespace TS
open PySem PyProof.Rows
section
variable {prog : Program} {w : World} {A : Around} {E : Value → Shared → Prop} {s : Shared} {κ : PyProof.Rows.KeyKind}
end
end TS

set_option maxRecDepth 100000
namespace RB
open PySem L2 PySem.Spec PyProof.Rows
namespace SI
end SI
section
variable {prog : Program} {w : World} {A : Around} {E : Value → Shared → Prop} {s : Shared}
end
end RB

set_option maxRecDepth 100000
namespace L2
open PySem PySem.Spec PyProof.Rows RB
section
variable {X : Cx}
/-! ### startswith, endswith of a whole text -/
end
end L2

set_option maxRecDepth 100000
namespace L2
open PySem PySem.Spec PyProof.Rows RB
section
variable {X : Cx} {pins : List (Addr × Obj)} {σ : List (Option V)} {H : Hp} {s : Shared}
end
end L2

set_option maxRecDepth 100000
namespace L2
open PySem PySem.Spec PyProof.Rows
/-! ### try / except C, with no name -/
section
variable {X : Cx} {x : Str} {C : Addr} {np hpos pos : Pos} {body suite : List Stmt} {b₀ : Stmt} {tb : (St → XK) → TS} {th : TS}
end
end L2

set_option maxRecDepth 100000
namespace L2
open PySem PySem.Spec PyProof.Rows
section
variable {X : Cx} {pins : List (Addr × Obj)} {σ : List (Option V)} {H : Hp} {s : Shared} {h' : Heap}
/-- untracked records of ours (an iterator's) have turned -/
theorem Inv.turnedL {t' : Nat} {ch : List Addr} (I : Inv X pins σ H s) (hf : ∀ b ∈ ch, FpOk X pins H b) (k : ∀ b o, b ∉ ch → s.heap.get? b = some o → h'.get? b = some o) : Inv X pins σ H { s with heap := h', toks := t' } := by
  have nit : ∀ b u, H b = some u → b ∉ ch := fun b u e z => by rw [(hf b z).1] at e; cases e
  refine I.step (g' := s.gens) (d' := s.drawn) (ch := ch) (fun b hb => ?_) (fun b o _ _ hc e _ => k b o hc e) (fun b o _ _ hc e _ => ⟨o.slots, k b o hc e⟩) (fun _ _ _ _ n => n)
    (fun b o hc e => ⟨o, k b o hc e⟩) (fun _ _ e => e) (fun _ _ _ e => e) (fun b ps e => ⟨#[], by rw [e]; simp⟩) (fun m hm => ?_) (fun b u e => ?_) I.bare
  · obtain ⟨_, f1, _, f3, f4, f5⟩ := hf b hb
    exact ⟨f3, f1, f4, f5⟩
  · obtain ⟨o, es, ep, ho, r⟩ := hm
    exact ⟨o, es, ep, k _ o (fun z => (hf _ z).2.1 rfl) ho, r⟩
  · refine (I.hok b u e).stay (fun c v hc q => k c v ?_ q) (fun _ q => q) fun _ _ q => q
    rcases hc with z | z
    · rw [z]; exact nit b u e
    · exact nit c _ z
end
/-! ### for .., .. in zip(a, b) -/
end L2

set_option maxRecDepth 100000
namespace RB
open PySem L2 PySem.Spec PyProof.Rows
/-! ### a reader: its text and its place -/
end RB

set_option maxRecDepth 100000
namespace RB
open PySem L2 PySem.Spec PyProof.Rows
/-! ### the figures of a number -/
end RB

set_option maxRecDepth 100000
namespace RB
open PySem L2 PySem.Spec PyProof.Rows
end RB

set_option maxRecDepth 100000
namespace RB
open PySem L2 PySem.Spec PyProof.Rows
/-! ### a recipe's core and the choices behind it -/
end RB

set_option maxRecDepth 100000
namespace RB
open PySem L2 PySem.Spec PyProof.Rows
end RB

set_option maxRecDepth 100000
namespace RB
open PySem L2 PySem.Spec PyProof.Rows
/-! ### rows of recipes, with their weight -/
end RB

set_option maxRecDepth 100000
namespace RB
open PySem L2 PySem.Spec PyProof.Rows
/-! ### recipes as data -/
end RB

set_option maxRecDepth 100000
namespace RB
open PySem L2 PySem.Spec PyProof.Rows
/-! ### the reader's mirror: what is read of a row of signs, and what is left -/
/-! ### the reader's state: the rest of its text -/
end RB

set_option maxRecDepth 100000
namespace RB
open PySem L2 PySem.Spec PyProof.Rows
end RB

set_option maxRecDepth 100000
namespace RB
open PySem L2 PySem.Spec PyProof.Rows
end RB

set_option maxRecDepth 100000
namespace RB
open PySem L2 PySem.Spec PyProof.Rows
/-! ### names in what is read -/
/-! ### read_recipe of anything -/
/-! ### texts that write none -/
/-! ### sums of a -/
end RB

set_option maxRecDepth 100000
namespace RB
open PySem L2 PySem.Spec PyProof.Rows PySem.NumText
/-! ### what the mirror reads, written again -/
end RB

set_option maxRecDepth 100000
namespace RB
open PySem L2 PySem.Spec PyProof.Rows PySem.NumText
/-! ### what is written is read -/
end RB

set_option maxRecDepth 100000
namespace L2
open PySem PySem.Spec PyProof.Rows
section
variable {prog : Program} {w : World} {A : Around} {E : Value → Shared → Prop}
/-! ### a, b, c = a list -/
end
section
variable {X : Cx} {pos : Pos}
end
end L2
namespace RB
open PySem L2 PySem.Spec PyProof.Rows
end RB

set_option maxRecDepth 100000
namespace L2
open PySem PySem.Spec PyProof.Rows
end L2
namespace RB
open PySem L2 PySem.Spec PyProof.Rows
end RB

set_option maxRecDepth 100000
namespace RB
open PySem L2 PySem.Spec PyProof.Rows
end RB

set_option maxRecDepth 100000
namespace RB
open PySem L2 PySem.Spec PyProof.Rows
end RB

set_option maxRecDepth 100000
namespace RB
open PySem L2 PySem.Spec PyProof.Rows
/-! ### reads: rows of (name, number) -/
end RB
namespace RB
open PySem L2 PySem.Spec PyProof.Rows
end RB

set_option maxRecDepth 100000
namespace L2
open PySem PySem.Spec PyProof.Rows
end L2
namespace RB
open PySem L2 PySem.Spec PyProof.Rows
/-! ### rows of sums, as texts -/
end RB

set_option maxRecDepth 100000
namespace L2
open PySem PySem.Spec PyProof.Rows
end L2
namespace RB
open PySem L2 PySem.Spec PyProof.Rows
/-! ### the law's names -/
end RB

set_option maxRecDepth 100000
namespace RB
open PySem L2 PySem.Spec PyProof.Rows
/-! ### worths known so far, and what a recipe comes to by them -/
/-! ### the machine -/
/-! ### recipes whose products are no wall -/
end RB
namespace RB
open PySem L2 PySem.Spec PyProof.Rows
/-! ### on the way -/
/-! ### what a recipe does behind reads -/
end RB

set_option maxRecDepth 100000
namespace L2
open PySem PySem.Spec PyProof.Rows
section
variable {X : Cx} {i o : Expr} {ty td : TE} {pos : Pos}
theorem qt_dnotin (hu : X.A.units + 1 < cLine) (hi : QE X i ty) (ho : QE X o td) (h1 : behindInMarks .NotIn o = false := by rfl) : QT X (.Compare i [.NotIn] [o] pos) (tB (tDNotIn ty td)) := ⟨pt_cmp (pc_dnotin hu hi.h ho.h) h1⟩
end
end L2
namespace RB
open PySem L2 PySem.Spec PyProof.Rows
/-! ### steps on the heap -/
/-! ### how much is left -/
/-! ### a reckoning -/
end RB
namespace RB
open PySem L2 PySem.Spec PyProof.Rows
end RB
namespace RB
open PySem L2 PySem.Spec PyProof.Rows
end RB
namespace RB
open PySem L2 PySem.Spec PyProof.Rows
end RB

set_option maxRecDepth 100000
namespace L2
open PySem PySem.Spec PyProof.Rows
theorem key_rel {k : Key} {v : Value} (h : keyIs k v = true) : RelV (kV k) v := by
  rcases keyIs_shape h with ⟨i, t, rfl, rfl⟩ | ⟨x, t, rfl, rfl⟩
  · exact ⟨t, rfl⟩
  · exact ⟨t, rfl⟩
theorem kv_at {κ : Type} : ∀ {kvs : List (κ × V)} {vs : List (κ × Value)}, KV kvs vs → kvs.length = vs.length ∧ ∀ (i : Nat) (k : κ) (x : Value), vs[i]? = some (k, x) → ∃ y, kvs[i]? = some (k, y)
  | _, _, .nil => ⟨rfl, fun i k x h => by simp at h⟩
  | _, _, .cons (a := p) (b := q) h t => by
    obtain ⟨h1, h2⟩ := kv_at t
    refine ⟨by simp [h1], fun i k x e => ?_⟩
    cases i with
    | zero => cases e; exact ⟨p.2, by rw [List.getElem?_cons_zero]; cases p; simp only at h ⊢; rw [h.1]⟩
    | succ i => exact h2 i k x (by simpa using e)
section
variable {X : Cx}
end
end L2

set_option maxRecDepth 100000
namespace RB
open PySem L2 PySem.Spec PyProof.Rows
/-! ### the pools of the laws from k50 on -/
end RB
namespace RB
open PySem L2 PySem.Spec PyProof.Rows
end RB

set_option maxRecDepth 100000
namespace L2
open PySem PySem.Spec PyProof.Rows
/-! ### xs[::-1] -/
section
variable {X : Cx} {e st : Expr} {te ts : TE} {pos p2 : Pos}
end
end L2

set_option maxRecDepth 100000
namespace RB
open PySem L2 PySem.Spec PyProof.Rows
/-! ### the law's own way: reads are used up as they are looked for -/
/-! ### how big a worth may be -/
end RB

set_option maxRecDepth 100000
namespace L2
open PySem PySem.Spec PyProof.Rows
/-! ### for k in d: the dict is held fast from then on -/
section
variable {X : Cx} {tg : Expr}
end
/-! ### dict(d) -/
section
variable {X : Cx}
theorem call_dictD : CallR X (.type "dict") (fun xs H Q => ∃ a kvs, xs = [.ref a] ∧ Rd H a (.dK kvs) ∧ ∀ p, H p = none → Q (.ref p) (upd H p (.dK kvs))) := by
  intro pins s σ H xs us Q I r h
  obtain ⟨a, kvs, rfl, ha, q⟩ := h
  obtain ⟨u, rfl, rx⟩ := vals1 r
  cases rx
  obtain ⟨hz, lo, vs, hkv, hd⟩ := (show ObjOk X.prog X.w H s.heap a (.dK kvs) from ha.ok I.hok)
  have hl := (kv_at hkv).1
  refine kt_call_dict lo hd (Nat.le_trans (Nat.le_of_eq hl.symm) hz) fun h' hd' hs' => ?_
  have keep : ∀ b u, s.heap.get? b = some u → h'.get? b = some u := fun b u e => by
    have hb : b ≠ s.heap.objs.size := Nat.ne_of_lt (Heap.lt_size e)
    rw [hs'.2 b hb]; exact Heap.get?_push_of_some _ e
  refine ⟨.ref s.heap.objs.size, _, I.laid (t' := s.toks) keep (Nat.le_refl _) (show ObjOk X.prog X.w _ h' _ (.dK kvs) from ⟨hz, ?_, vs, hkv, hd'⟩), rfl, q _ (I.hok.fresh (Nat.le_refl _))⟩
  exact beq_eq_false_iff_ne.mpr (Nat.ne_of_gt I.big)
theorem qc_dictD : QCall X (.type "dict") (fun xs H Q => ∃ a kvs, xs = [.ref a] ∧ Rd H a (.dK kvs) ∧ ∀ p, H p = none → Q (.ref p) (upd H p (.dK kvs))) := ⟨call_dictD⟩
end
/-! ### alike, part by part -/
theorem val_at {κ : Type} [DecidableEq κ] : ∀ {vs : List (κ × Value)} {i : Nat} {k : κ} {u : Value}, (vs.map (·.1)).Nodup → vs[i]? = some (k, u) → valueAt vs k = some u
  | [], i, k, u, _, h => by simp at h
  | p :: vs, i, k, u, hn, h => by
    rw [List.map_cons, List.nodup_cons] at hn
    unfold valueAt
    cases i with
    | zero =>
      have : p = (k, u) := by simpa using h
      subst this
      simp
    | succ i =>
      have h' : vs[i]? = some (k, u) := by simpa using h
      have hk : k ∈ vs.map (·.1) := List.mem_map.mpr ⟨(k, u), List.mem_of_getElem? h', rfl⟩
      have hne : ¬ p.1 = k := fun z => hn.1 (z ▸ hk)
      have ih := val_at hn.2 h'
      unfold valueAt at ih
      simp [hne] at ih ⊢
      exact ih
noncomputable def plainV : V → Bool
  | .byt _ => false
  | .flt _ => false
  | _ => true
theorem eqAt_sameV {A : Around} {s : Shared} {x : V} {u v : Value} (hx : plainV x = true) (r : RelV x u) (r' : RelV x v) : SeqAt.EqAt A s u v true := by
  cases x with
  | int i => obtain ⟨t, rfl⟩ := r; obtain ⟨t', rfl⟩ := r'; have := SeqAt.EqAt.int_int (A := A) (s := s) i t i t'; simpa using this
  | str i => obtain ⟨t, rfl⟩ := r; obtain ⟨t', rfl⟩ := r'; have := SeqAt.EqAt.str_str (A := A) (s := s) i t i t'; simpa using this
  | non => cases r; cases r'; exact SeqAt.EqAt.same _
  | bl b => cases r; cases r'; exact SeqAt.EqAt.same _
  | ref a => cases r; cases r'; exact SeqAt.EqAt.same _
  | ty a => cases r; cases r'; exact SeqAt.EqAt.same _
  | byt a => exact absurd (show false = true from hx) Bool.false_ne_true
  | flt a => exact absurd (show false = true from hx) Bool.false_ne_true
theorem kv_get {κ : Type} : ∀ {kvs : List (κ × V)} {vs : List (κ × Value)}, KV kvs vs → ∀ (i : Nat) (k : κ) (x : Value), vs[i]? = some (k, x) → ∃ y, kvs[i]? = some (k, y) ∧ RelV y x
  | _, _, .nil => fun i k x h => by simp at h
  | _, _, .cons (a := p) (b := q) h t => fun i k x e => by
    cases i with
    | zero => cases e; exact ⟨p.2, by rw [List.getElem?_cons_zero]; cases p; simp only at h ⊢; rw [h.1], h.2⟩
    | succ i => exact kv_get t i k x (by simpa using e)
theorem kv_got {κ : Type} : ∀ {kvs : List (κ × V)} {vs : List (κ × Value)}, KV kvs vs → ∀ (i : Nat) (k : κ) (y : V), kvs[i]? = some (k, y) → ∃ x, vs[i]? = some (k, x) ∧ RelV y x
  | _, _, .nil => fun i k x h => by simp at h
  | _, _, .cons (a := p) (b := q) h t => fun i k x e => by
    cases i with
    | zero => cases e; exact ⟨q.2, by rw [List.getElem?_cons_zero]; cases q; simp only at h ⊢; rw [h.1], h.2⟩
    | succ i => exact kv_got t i k x (by simpa using e)
theorem hits_of {κ : Type} [DecidableEq κ] {A : Around} {s : Shared} {kb : List (κ × Value)} : ∀ {ka : List (κ × Value)}, (∀ k u, (k, u) ∈ ka → ∃ y, valueAt kb k = some y ∧ SeqAt.EqAt A s u y true) → PySem.W.KeqHits A s kb ka true
  | [], _ => .nil
  | (k, u) :: r, h => by
    obtain ⟨y, h1, h2⟩ := h k u (by simp)
    exact PySem.W.KeqHits.hit (e := true) (b := true) h1 h2 (hits_of fun k u m => h k u (by simp [m]))
noncomputable def EqIn (P : Program) (w : World) (A : Around) (s : Shared) (y x : Value) : Prop := ∀ (E : Value → Shared → Prop) (Q : Bool → Shared → Prop), Q true s → wpAny (model P w) A (eqBool y x) Q E s
theorem eqIn_dicts {A : Around} {s : Shared} {P : Program} {w : World} {a b : Addr} {kvs : List (Key × V)} {va vb : List (Key × Value)} (la : (a == sysModules) = false) (lb : (b == sysModules) = false) (ka : KV kvs va) (kb : KV kvs vb) (da : s.heap.DictOf (mixKind P w) a va) (db : s.heap.DictOf (mixKind P w) b vb) (hpl : ∀ p ∈ kvs, plainV p.2 = true) (hu : A.units < cLine) : EqIn P w A s (.ref a) (.ref b) := fun E Q q => by
  by_cases hab : a = b
  · subst hab; exact SeqAt.EqAt.same (.ref a) P w E Q q
  have hn : (vb.map (·.1)).Nodup := let ⟨_, _, _, _, _, _, _, _, hn⟩ := db; hn
  have hl : va.length = vb.length := by rw [← (kv_at ka).1, ← (kv_at kb).1]
  unfold eqBool
  refine wpAny_holding (wpAny_ite_split (fun z => absurd (by have := eq_of_beq z; injection this) hab) fun _ => wpAny_bind ?_)
  refine PySem.W.keq_eq (r := true) la lb da db hu (fun _ => hits_of fun k u m => ?_) (wpAny_truthy_bool ?_)
  · obtain ⟨i, hi⟩ := List.getElem?_of_mem m
    obtain ⟨y, hy, ry⟩ := kv_get ka i k u hi
    obtain ⟨x, hx, rx⟩ := kv_got kb i k y hy
    exact ⟨x, val_at hn hx, eqAt_sameV (hpl (k, y) (List.mem_of_getElem? hy)) ry rx⟩
  · rw [hl]; simpa using q
section
variable {X : Cx}
/-! ### sorted: texts, fewer than 64 -/
end
end L2
namespace RB
open PySem L2 PySem.Spec PyProof.Rows
/-! ### (name, number) not in a row of reads -/
end RB
namespace L2
open PySem PySem.Spec PyProof.Rows
section
variable {X : Cx} {o e : Expr} {td ty : TE} {apos cpos : Pos}
end
end L2

set_option maxRecDepth 100000
namespace RB
open PySem L2 PySem.Spec PyProof.Rows
/-! ### the recipes of k31 to k41 -/
end RB

set_option maxRecDepth 100000
namespace RB
open PySem L2 PySem.Spec PyProof.Rows
end RB

set_option maxRecDepth 100000
namespace RB
open PySem L2 PySem.Spec PyProof.Rows
/-! ### dicts whose keys are texts -/
/-! ### names by number -/
/-! ### houses -/
end RB
namespace RB
open PySem L2 PySem.Spec PyProof.Rows
end RB
namespace RB
open PySem L2 PySem.Spec PyProof.Rows
section
variable {H : Hp} {kg kc : List (Key × V)} {n : Nat} {gv : Kn} {rc : Rn}
end
end RB

set_option maxRecDepth 100000
namespace RB
open PySem L2 PySem.Spec PyProof.Rows
/-! ### a recipe's worth, and the reads it took -/
/-! ### rows of reads that are known -/
/-! ### the law's state -/
section
variable {X : List Addr} {H H' : Hp} {st wd rd : Addr} {n : Nat} {gv : Kn} {rc : Rn} {kn : Kn} {rm : Rm}
end
end RB
namespace RB
open PySem L2 PySem.Spec PyProof.Rows
end RB

set_option maxRecDepth 100000
namespace RB
open PySem L2 PySem.Spec PyProof.Rows
section
variable {H : Hp} {s l h : Addr} {du wr : V}
end
section
variable {H H' : Hp} {s l h : Addr} {kn : Kn} {ps : List Rdp}
end
end RB
namespace RB
open PySem L2 PySem.Spec PyProof.Rows
end RB
namespace RB
open PySem L2 PySem.Spec PyProof.Rows
end RB

set_option maxRecDepth 100000
namespace RB
open PySem L2 PySem.Spec PyProof.Rows
end RB

set_option maxRecDepth 100000
namespace RB
open PySem L2 PySem.Spec PyProof.Rows
section
variable {X : List Addr} {H : Hp} {h g c st wd rd : Addr} {n : Nat} {gv : Kn} {rc : Rn} {kn : Kn} {rm : Rm}
end
end RB
namespace RB
open PySem L2 PySem.Spec PyProof.Rows
end RB
namespace RB
open PySem L2 PySem.Spec PyProof.Rows
/-! ### records put by -/
end RB
namespace RB
open PySem L2 PySem.Spec PyProof.Rows
end RB

set_option maxRecDepth 100000
namespace RB
open PySem L2 PySem.Spec PyProof.Rows
end RB
namespace RB
open PySem L2 PySem.Spec PyProof.Rows
end RB

set_option maxRecDepth 100000
namespace RB
open PySem L2 PySem.Spec PyProof.Rows
end RB

set_option maxRecDepth 100000
namespace RB
open PySem L2 PySem.Spec PyProof.Rows
end RB

set_option maxRecDepth 100000
namespace L2
open PySem PySem.Spec PyProof.Rows
/-! ### zip of two tuples -/
section
variable {prog : Program} {w : World} {A : Around} {E : Value → Shared → Prop} {s : Shared}
end
end L2

set_option maxRecDepth 100000
namespace L2
open PySem PySem.Spec PyProof.Rows
section
variable {prog : Program} {w : World} {A : Around} {E : Value → Shared → Prop} {s : Shared}
end
end L2

set_option maxRecDepth 100000
namespace RB
open PySem PySem.Spec PyProof.Rows L2
/-! ### things that are the same -/
end RB

set_option maxRecDepth 100000
namespace RB
open PySem L2 PySem.Spec PyProof.Rows
end RB

set_option maxRecDepth 100000
namespace RB
open PySem L2 PySem.Spec PyProof.Rows
end RB

set_option maxRecDepth 100000
namespace L2
open PySem PySem.Spec PyProof.Rows
/-! ### for k, x in enumerate(a list) -/
end L2

set_option maxRecDepth 100000
namespace L2
open PySem PySem.Spec PyProof.Rows
/-! ### for k, v in d.items(): the dict is held fast from then on -/
namespace SI
theorem itE : entryFor table "dict_itemiterator.__iter__" = some Builtin.«dict_keyiterator.__iter__» :=
  entryFor_alias (id' := "dict_keyiterator.__iter__") (by kernel_rfl) rfl (by decide +kernel) (by kernel_rfl)
end SI
end L2

set_option maxRecDepth 100000
namespace RB
open PySem L2 PySem.Spec PyProof.Rows
namespace SI
end SI
section
variable {prog : Program} {w : World} {A : Around} {E : Value → Shared → Prop} {s : Shared}
end
end RB
namespace L2
open PySem PySem.Spec PyProof.Rows RB
section
variable {X : Cx} {tg : Expr}
end
end L2
namespace RB
open PySem L2 PySem.Spec PyProof.Rows
noncomputable def GoodH (H : Hp) (kr : List (Key × V)) : Prop := ∀ p ∈ kr, ∃ x a r, p = (.inr x, .ref a) ∧ GName x ∧ IsR H a r ∧ r.Good ∧ r.nodes ≤ 100 ∧ r.depth ≤ 8
noncomputable def GoodN (kg : List (Key × V)) : Prop := ∀ p ∈ kg, ∃ x n, p = (.inr x, .int n) ∧ GName x
end RB

set_option maxRecDepth 100000
namespace L2
open PySem PySem.Spec PyProof.Rows
/-! ### a dict with one key of another kind: what a search finds when every comparison is known -/
theorem places_find {es : Array DictEntry} {hk : Int} {isk : DictEntry → Bool} (hh : ∀ e ∈ es, isk e = true → e.hash = hk) :
    (placesWithHash es.size (fun i => es[i]?.map (·.hash)) hk).find? (fun i => (es[i]?.map isk).getD false) = es.findIdx? isk := by
  unfold placesWithHash
  rw [List.find?_filter]
  cases z : es.findIdx? isk with
  | none =>
    rw [Array.findIdx?_eq_none_iff] at z
    refine List.find?_eq_none.mpr fun i hi => ?_
    have hi' : i < es.size := List.mem_range.mp hi
    simp [hi', z es[i] (Array.getElem_mem hi')]
  | some i =>
    obtain ⟨hi, h1, h2⟩ := Array.findIdx?_eq_some_iff_getElem.mp z
    refine List.find?_range_eq_some.mpr ⟨?_, List.mem_range.mpr hi, fun j hj => ?_⟩
    · simp [hi, h1, hh es[i] (Array.getElem_mem hi) h1]
    · have hj' : j < es.size := by omega
      have := h2 j hj
      simp [hj', this]
section
variable {P : Program} {w : World} {A : Around} {E : Value → Shared → Prop} {s : Shared}
theorem quiet_known {key : Value} {stored : List Value} {Q : Bool → Shared → Prop} (hq : ∀ (Q : Bool → Shared → Prop), Q true s → wpAny (model P w) A (eqIsQuiet 8 key) Q E s)
    (hqs : ∀ v ∈ stored, ∀ (Q : Bool → Shared → Prop), Q true s → wpAny (model P w) A (eqIsQuiet 8 v) Q E s) (h : Q false s) : wpAny (model P w) A (tableMayTell key stored) Q E s := by
  unfold tableMayTell
  refine wpAny_ite_split (fun _ => wpAny_pure h) fun _ => wpAny_bind (hq _ ?_)
  simp only [Bool.not_true, Bool.false_eq_true, if_false]
  refine wpAny_bind ?_
  refine wpAny_forIn_list _ (fun rest r s' => s' = s ∧ r = (none, ()) ∧ ∀ v ∈ rest, v ∈ stored) _ ?_ ?_ _ _ ⟨rfl, rfl, fun v m => m⟩
  · rintro x rest r s' ⟨rfl, rfl, hr⟩
    refine wpAny_bind (hqs x (hr x List.mem_cons_self) _ ?_)
    simp only [Bool.not_true, Bool.false_eq_true, if_false]
    exact wpAny_pure ⟨rfl, rfl, fun v hv => hr v (List.mem_cons_of_mem _ hv)⟩
  · rintro r s' ⟨rfl, rfl, _⟩
    exact wpAny_pure h
theorem dictFind_known {d : Addr} {o : Obj} {es : Array DictEntry} {ep : Nat} {key : Value} {hk : Int} {isk : DictEntry → Bool} {Q : Option Nat → Shared → Prop}
    (ho : s.heap.get? d = some o) (hd : o.data = .dict es ep)
    (hns : ∀ x t, key = .str x t → (es.all fun e => isExactStrKey e.key) = false)
    (hrf : ∀ b, key = .ref b → ∀ e ∈ es, (e.key == key) = false)
    (hq : ∀ (Q : Bool → Shared → Prop), Q true s → wpAny (model P w) A (eqIsQuiet 8 key) Q E s)
    (hqs : ∀ e ∈ es, ∀ (Q : Bool → Shared → Prop), Q true s → wpAny (model P w) A (eqIsQuiet 8 e.key) Q E s)
    (heq : ∀ e ∈ es, e.hash = hk → ∀ (Q : Bool → Shared → Prop), Q (isk e) s → wpAny (model P w) A (eqBool e.key key) Q E s)
    (hh : ∀ e ∈ es, isk e = true → e.hash = hk)
    (hun : ∀ (i j : Nat) (e e' : DictEntry), es[i]? = some e → es[j]? = some e' → isk e = true → isk e' = true → i = j)
    (h : Q (es.findIdx? isk) s) : wpAny (model P w) A (dictFind d key hk) Q E s := by
  have hpl : ∀ i ∈ placesWithHash es.size (fun i => es[i]?.map (·.hash)) hk, ∃ hi : i < es.size, es[i].hash = hk := fun i m => by
    unfold placesWithHash at m
    obtain ⟨m1, m2⟩ := List.mem_filter.mp m
    have hi : i < es.size := List.mem_range.mp m1
    refine ⟨hi, ?_⟩
    simpa [hi] using m2
  have hnd : (placesWithHash es.size (fun i => es[i]?.map (·.hash)) hk).Nodup := by
    unfold placesWithHash
    exact (List.nodup_range).filter _
  rw [← places_find hh] at h
  have hst : ∀ v ∈ (placesWithHash es.size (fun i => es[i]?.map (·.hash)) hk).filterMap (fun i => es[i]?.map (·.key)), ∃ e ∈ es, v = e.key := fun v hv => by
    obtain ⟨i, _, hi⟩ := List.mem_filterMap.mp hv
    cases he : es[i]? with
    | none => rw [he] at hi; cases hi
    | some e =>
      rw [he] at hi
      obtain rfl : e.key = v := by simpa using hi
      exact ⟨e, Array.mem_of_getElem? he, rfl⟩
  unfold dictFind
  try with_reducible refine wpAny_holding ?_
  refine wpAny_bind (wpAny_dictEntries ho hd ?_)
  dsimp only
  generalize hps : placesWithHash es.size (fun i => es[i]?.map (·.hash)) hk = ps at h hst hpl hnd ⊢
  clear hps
  split <;> (try rw [if_neg (by rw [hns _ _ rfl]; exact Bool.false_ne_true)])
  all_goals refine wpAny_ite_split (fun _ => ?_) fun hnc => ?_
  case' h_1.refine_2 => dsimp only
  case' h_2.refine_2 => split
  case' h_1 =>
    rw [if_neg (by
      rw [← Array.any_toList, List.any_eq_true]
      rintro ⟨e, hin, hc⟩
      rw [hrf _ rfl e (Array.mem_toList_iff.mp hin)] at hc
      simp at hc)]
  all_goals first
    | (unfold dictWalkPlain
       refine wpAny_bind ?_
       refine wpAny_forIn_list _ (fun rest b s' => s' = s ∧ b = (none, ()) ∧ (∀ i ∈ rest, i ∈ ps) ∧ Q (rest.find? (fun i => (es[i]?.map isk).getD false)) s) _ ?_ ?_ _ _ ⟨rfl, rfl, fun _ m => m, h⟩
       · rintro x rest b s' ⟨rfl, rfl, hr, hQ⟩
         obtain ⟨hi, hhx⟩ := hpl x (hr x List.mem_cons_self)
         simp only [Array.getElem?_eq_getElem hi]
         rw [if_pos (by rw [hhx]; simp)]
         refine wpAny_bind (wpAny_dictEpoch ho hd (wpAny_bind (heq es[x] (Array.getElem_mem hi) hhx _ (wpAny_bind (wpAny_dictEpoch ho hd ?_)))))
         rw [if_neg (by simp)]
         rw [List.find?_cons] at hQ
         simp only [Array.getElem?_eq_getElem hi, Option.map_some, Option.getD_some] at hQ
         cases hk' : isk es[x] with
         | true =>
           rw [hk'] at hQ
           exact wpAny_bind (wpAny_rule (wpAny_pure (wpAny_pure hQ)))
         | false =>
           rw [hk'] at hQ
           exact wpAny_bind (wpAny_rule (wpAny_pure ⟨rfl, rfl, fun i m => hr i (List.mem_cons_of_mem _ m), hQ⟩))
       · rintro b s' ⟨rfl, rfl, hr, hQ⟩
         exact wpAny_pure hQ)
    | skip
  all_goals
    refine wpAny_ite_split (fun _ => wpAny_bind (wpAny_pure ?_)) fun _ => wpAny_bind (quiet_known hq (fun v m => by obtain ⟨e, me, rfl⟩ := hst v m; exact hqs e me) ?_)
  all_goals
    rw [if_neg (by simp)]
    refine wpAny_bind ?_
    refine wpAny_forIn_list _ (fun rest b s' => s' = s ∧ ∃ hit, b = (none, hit) ∧ (∀ i ∈ rest, i ∈ ps) ∧ rest.Nodup ∧
      ((hit = none ∧ Q (rest.find? (fun i => (es[i]?.map isk).getD false)) s) ∨ ∃ i e, hit = some i ∧ es[i]? = some e ∧ isk e = true ∧ i ∉ rest ∧ Q (some i) s)) _ ?_ ?_ _ _ ⟨rfl, none, rfl, fun _ m => m, hnd, .inl ⟨rfl, h⟩⟩
    · rintro x rest b s' ⟨rfl, hit, rfl, hr, hn, hQ⟩
      obtain ⟨hi, hhx⟩ := hpl x (hr x List.mem_cons_self)
      obtain ⟨hn1, hn2⟩ := List.nodup_cons.mp hn
      simp only [Array.getElem?_eq_getElem hi]
      rw [if_pos (by rw [hhx]; simp)]
      refine wpAny_bind (wpAny_dictEpoch ho hd (wpAny_bind (heq es[x] (Array.getElem_mem hi) hhx _ (wpAny_bind (wpAny_dictEpoch ho hd ?_)))))
      rw [if_neg (by simp)]
      have hr' : ∀ i ∈ rest, i ∈ ps := fun i m => hr i (List.mem_cons_of_mem _ m)
      have ex : es[x]? = some es[x] := Array.getElem?_eq_getElem hi
      rw [List.find?_cons] at hQ
      simp only [ex, Option.map_some, Option.getD_some] at hQ
      cases hk' : isk es[x] with
      | true =>
        rw [hk'] at hQ
        rw [if_pos rfl]
        rcases hQ with ⟨rfl, hQ⟩ | ⟨i, e, rfl, he, hie, hix, _⟩
        · rw [if_neg (by simp)]
          refine wpAny_bind (wpAny_rule ?_)
          exact wpAny_ite_split (fun _ => wpAny_pure (wpAny_pure hQ)) fun _ => wpAny_pure ⟨rfl, some x, rfl, hr', hn2, .inr ⟨x, es[x], rfl, ex, hk', hn1, hQ⟩⟩
        · exact absurd (hun i x e es[x] he ex hie hk') fun z => hix (z ▸ List.mem_cons_self)
      | false =>
        rw [hk'] at hQ
        rw [if_neg (by simp)]
        refine wpAny_bind (wpAny_rule ?_)
        rw [if_neg (by simp)]
        refine wpAny_pure ⟨rfl, hit, rfl, hr', hn2, ?_⟩
        rcases hQ with ⟨rfl, hQ⟩ | ⟨i, e, rfl, he, hie, hix, hQ⟩
        · exact .inl ⟨rfl, hQ⟩
        · exact .inr ⟨i, e, rfl, he, hie, fun z => hix (List.mem_cons_of_mem _ z), hQ⟩
    · rintro b s' ⟨rfl, hit, rfl, hr, hn, hQ⟩
      rcases hQ with ⟨rfl, hQ⟩ | ⟨i, e, rfl, he, hie, hix, hQ⟩
      · exact wpAny_pure hQ
      · exact wpAny_pure hQ
end
end L2

set_option maxRecDepth 100000
namespace L2
open PySem PySem.Spec PyProof.Rows
/-! ### the odd keys: None, True, an int, a tuple of one text -/
noncomputable def OddU (h : Heap) (u : Value) : Prop := u = .none ∨ u = .bool true ∨ (∃ i t, u = .int i t) ∨ ∃ T x t, u = .ref T ∧ IsTup h T #[.str x t]
section
variable {P : Program} {w : World} {A : Around} {E : Value → Shared → Prop} {s : Shared} {u : Value}
theorem tupKey1 {h : Heap} {T : Addr} {x : Str} {t : Tok} (z : IsTup h T #[.str x t]) : IsTupleKey (mixKind P w) h [.inr x] T :=
  let ⟨o, ho, hc, n, hd⟩ := z; ⟨o, _, n, ho, hc, hd, .cons (mixKind_str P w x t) .nil⟩
theorem OddU.quiet (z : OddU s.heap u) (Q : Bool → Shared → Prop) (h : Q true s) : wpAny (model P w) A (eqIsQuiet 8 u) Q E s := by
  rcases z with rfl | rfl | ⟨i, t, rfl⟩ | ⟨T, x, t, rfl, z⟩
  · rw [eqIsQuiet_byValue _ rfl]; exact wpAny_pure h
  · rw [eqIsQuiet_byValue _ rfl]; exact wpAny_pure h
  · rw [eqIsQuiet_byValue _ rfl]; exact wpAny_pure h
  · exact wpAny_eqIsQuiet_tuple (tupKey1 (P := P) (w := w) z) h
theorem isTuple_of {h : Heap} {T : Addr} {its : Array Value} (z : IsTup h T its) : h.IsTuple T its := by
  obtain ⟨o, ho, hc, n, hd⟩ := z
  exact ⟨o, ho, hc, n, hd⟩
theorem OddU.eqStr (hu : A.units + 2 < cLine) (z : OddU s.heap u) {x : Str} {t : Tok} {Q : Bool → Shared → Prop} (h : Q false s) : wpAny (model P w) A (eqBool u (.str x t)) Q E s := by
  rcases z with rfl | rfl | ⟨i, t', rfl⟩ | ⟨T, y, t', rfl, z⟩
  · exact SeqAt.EqAt.none_str x t P w E Q h
  · exact SeqAt.EqAt.bool_str true x t P w E Q h
  · exact SeqAt.EqAt.int_str i t' x t P w E Q h
  · exact SeqAt.EqAt.tuple_str x t (isTuple_of z) (by omega) P w E Q h
theorem OddU.strEq (hu : A.units + 2 < cLine) (z : OddU s.heap u) {x : Str} {t : Tok} {Q : Bool → Shared → Prop} (h : Q false s) : wpAny (model P w) A (eqBool (.str x t) u) Q E s := by
  rcases z with rfl | rfl | ⟨i, t', rfl⟩ | ⟨T, y, t', rfl, z⟩
  · exact SeqAt.EqAt.str_none x t P w E Q h
  · exact SeqAt.EqAt.str_bool x t true P w E Q h
  · exact SeqAt.EqAt.str_int x t i t' P w E Q h
  · exact SeqAt.EqAt.str_tuple x t (isTuple_of z) (by omega) P w E Q h
theorem OddU.hash (hu : A.units + 2 < cLine) (z : OddU s.heap u) : ∃ hk, ∀ (Q : Int → Shared → Prop), (∀ tk, Q hk { s with toks := tk }) → wpAny (model P w) A (pyHash u) Q E s := by
  rcases z with rfl | rfl | ⟨i, t, rfl⟩ | ⟨T, x, t, rfl, z⟩
  · exact ⟨_, fun Q h => PySem.W.pyHash_laid .none .none A s Q rfl .none (by simp [PySem.W.WData.depth]; omega) h⟩
  · exact ⟨_, fun Q h => PySem.W.pyHash_laid (.bool true) (.bool true) A s Q rfl (.bool true) (by simp [PySem.W.WData.depth]; omega) h⟩
  · exact ⟨_, fun Q h => wpAny_pyHash_int (h _)⟩
  · exact ⟨_, fun Q h => wpAny_pyHash_tuple (by omega) (tupKey1 (P := P) (w := w) z) (h _)⟩
theorem OddU.notStr {h : Heap} (z : OddU h u) (x : Str) : keyIs (.inr x) u = false := by
  rcases z with rfl | rfl | ⟨i, t, rfl⟩ | ⟨T, y, t, rfl, z⟩ <;> rfl
theorem OddU.notEx {h : Heap} (z : OddU h u) : isExactStrKey u = false := by
  rcases z with rfl | rfl | ⟨i, t, rfl⟩ | ⟨T, y, t, rfl, z⟩ <;> rfl
/-- the odd key is not there yet: it goes to the end -/
theorem setItem_odd {d : Addr} {o : Obj} {es : Array DictEntry} {ep : Nat} {v : Value} {Q : Unit → Shared → Prop} (hu : A.units + 3 < cLine) (ho : s.heap.get? d = some o) (hx : o.ExactDict) (hd : o.data = .dict es ep)
    (hstr : ∀ e ∈ es, ∃ x t, e.key = .str x t) (hz : es.size ≤ sizeLine) (z : OddU s.heap u)
    (hQ : ∀ hk h' tk, h'.get? d = some (o.mapDictKeys (·.push ⟨hk, u, v⟩)) → Heap.SameBut d s.heap h' → Q () { s with heap := h', toks := tk }) :
    wpAny (model P w) A (setItem (.ref d) u v) Q E s := by
  have hT : s.TypeIs (.ref d) "dict" := ⟨o, ho, hx.1⟩
  unfold setItem
  try with_reducible refine wpAny_holding ?_
  refine wpAny_bind (wpAny_sequenceKey hT (by decide) ?_)
  refine wpAny_bind (wpAny_callSpecial?_slot (name := Str.ofString "__setitem__") hT slot_dict_setitem
    (wpAny_call_entry slot_dict_setitem hT entry_dict_setitem ?_ (args_dict_setitem _ _ _)))
  show wpAny _ _ (Builtin.Dict.notOrdered "__setitem__" ⟨[.ref d, u, v], []⟩ >>= _) _ _ s
  refine wpAny_bind (wpAny_notOrdered_dict hT ?_)
  show wpAny _ _ (dictSet d u v >>= _) _ _ s
  refine wpAny_bind ?_
  unfold dictSet
  try with_reducible refine wpAny_holding ?_
  obtain ⟨hk, hh⟩ := z.hash (P := P) (w := w) (A := A.in1) (s := s) (E := E) (by rw [Around.in1_units]; omega)
  refine wpAny_bind (hh _ fun tk => ?_)
  unfold dictSetHashed
  try with_reducible refine wpAny_holding ?_
  refine wpAny_bind (dictFind_known (s := { s with toks := tk }) (isk := fun _ => false) ho hd (fun x t e => ?_) (fun b e en m => ?_) (fun Q h => OddU.quiet (s := { s with toks := tk }) z Q h) (fun en m Q h => ?_) (fun en m _ Q h => ?_) (fun _ _ q => nomatch q) (fun _ _ _ _ _ _ q => nomatch q) ?_)
  · subst e; exact absurd (show true = false from z.notEx) (by decide)
  · obtain ⟨x, t, ex⟩ := hstr en m
    rw [ex, e]; rfl
  · obtain ⟨x, t, ex⟩ := hstr en m
    rw [ex, eqIsQuiet_byValue _ rfl]; exact wpAny_pure h
  · obtain ⟨x, t, ex⟩ := hstr en m
    rw [ex]; exact OddU.strEq (s := { s with toks := tk }) (by rw [Around.in1_units]; omega) z h
  · have e0 : es.findIdx? (fun _ => false) = none := Array.findIdx?_eq_none_iff.mpr fun _ _ => rfl
    rw [e0]
    refine wpAny_bind (wpAny_rule (wpAny_updateDictKeys (hz := hz) (s := { s with toks := tk }) ho hd ?_))
    exact wpAny_pure ⟨.none, rfl, wpAny_pure (hQ hk _ tk (Heap.get?_update_self _ ho (Obj.isFreed_of_dict (Obj.data_mapDictKeys hd _))) (Heap.SameBut.update ..))⟩
/-- a text is looked for where an odd key is the last -/
theorem dictGet_odd {d : Addr} {o : Obj} {es : Array DictEntry} {ep : Nat} {hx : Int} {vu : Value} {vs : List (Key × Value)} {y : Str} {t : Tok} {Q : Option Value → Shared → Prop} (hu : A.units + 2 < cLine) (ho : s.heap.get? d = some o) (hd : o.data = .dict (es.push ⟨hx, u, vu⟩) ep)
    (hk : KeysOf (mixKind P w) es) (hp : Pairs (mixKind P w) es.toList vs) (hn : (vs.map (·.1)).Nodup) (z : OddU s.heap u) (h : ∀ tk, Q (valueAt vs (.inr y)) { s with toks := tk }) :
    wpAny (model P w) A (dictGet d (.str y t)) Q E s := by
  unfold dictGet
  try with_reducible refine wpAny_holding ?_
  refine wpAny_bind (wpAny_pyHash_str (wpAny_bind ?_))
  have idx : ∀ (i : Nat) (e : DictEntry), es[i]? = some e → keyIs (.inr y) e.key = true → ∃ v, vs[i]? = some (Sum.inr y, v) := fun i e he hi => by
    have hlt : i < es.size := by
      rcases Nat.lt_or_ge i es.size with q | q
      · exact q
      · rw [Array.getElem?_eq_none q] at he; cases he
    have hl : es.toList.length = vs.length := hp.length
    have hlt' : i < vs.length := by rw [← hl]; simpa using hlt
    have e1 : vs[i]? = some (vs[i].1, vs[i].2) := by simp [hlt']
    obtain ⟨k1, k2⟩ := hp.get? (e := e) (by simpa using he) e1
    have : vs[i].1 = .inr y := (mixKind P w).inj _ _ _ k1 hi
    exact ⟨vs[i].2, by rw [e1, this]⟩
  have hlast : ∀ (i : Nat) (e : DictEntry), (es.push ⟨hx, u, vu⟩)[i]? = some e → keyIs (.inr y) e.key = true → es[i]? = some e := fun i e he hi => by
    rw [Array.getElem?_push] at he
    by_cases q : i = es.size
    · rw [if_pos q] at he
      cases he
      rw [z.notStr] at hi; cases hi
    · rw [if_neg q] at he; exact he
  refine dictFind_known (s := { s with toks := s.toks + 1 }) (isk := fun e => keyIs (.inr y) e.key) ho hd (fun x t e => ?_) (fun b e => nomatch e) (fun Q h => by rw [eqIsQuiet_byValue _ rfl]; exact wpAny_pure h) (fun en m Q h => ?_) (fun en m _ Q h => ?_) (fun en m q => ?_) (fun i j e e' he he' q q' => ?_) ?_
  · rw [Array.all_push, z.notEx, Bool.and_false]
  · rcases Array.mem_push.mp m with m | rfl
    · obtain ⟨k, hk', _⟩ := hk en m
      rw [eqIsQuiet_byValue _ ((mixKind P w).byValue _ _ hk')]; exact wpAny_pure h
    · exact OddU.quiet (s := { s with toks := s.toks + 1 }) z Q h
  · rcases Array.mem_push.mp m with m | rfl
    · obtain ⟨k, hk', _⟩ := hk en m
      refine (mixKind P w).eqBool (a := k) (b := .inr y) hk' (mixKind_str P w y t) ?_
      have := KeyKind.is_eq_decide (knd := mixKind P w) hk' (.inr y)
      rw [mixKind_is] at this
      rw [this] at h
      by_cases q : k = .inr y
      · rw [decide_eq_true q]; rw [decide_eq_true q.symm] at h; exact h
      · rw [decide_eq_false q]; rw [decide_eq_false fun e => q e.symm] at h; exact h
    · rw [z.notStr] at h
      exact OddU.eqStr (s := { s with toks := s.toks + 1 }) hu z h
  · rcases Array.mem_push.mp m with m | rfl
    · obtain ⟨k, hk', hh⟩ := hk en m
      have : k = .inr y := (mixKind P w).inj _ _ _ hk' q
      rw [hh, this]; rfl
    · rw [z.notStr] at q; cases q
  · obtain ⟨v1, e1⟩ := idx i e (hlast i e he q) q
    obtain ⟨v2, e2⟩ := idx j e' (hlast j e' he' q') q'
    have l1 : i < (vs.map (·.1)).length := by
      rcases Nat.lt_or_ge i vs.length with q | q
      · simpa using q
      · rw [List.getElem?_eq_none q] at e1; cases e1
    exact (List.getElem?_inj l1 hn).mp (by simp [e1, e2])
  · have ef : (es.push ⟨hx, u, vu⟩).findIdx? (fun e => keyIs (.inr y) e.key) = es.findIdx? (fun e => keyIs (.inr y) e.key) := by
      rw [Array.findIdx?_push]
      simp [z.notStr]
    have hv : valueAt vs (.inr y) = findBy keyIs es (.inr y) := by
      have := hp.find (.inr y)
      rw [← this]
      obtain ⟨l⟩ := es
      simp [findBy]
      rfl
    rw [ef]
    rw [hv, findBy_of_findIdx?] at h
    cases hi : es.findIdx? (fun e => keyIs (.inr y) e.key) with
    | none => rw [hi] at h; exact wpAny_pure (h _)
    | some i =>
      rw [hi] at h
      refine wpAny_bind (wpAny_dictEntries (s := { s with toks := s.toks + 1 }) ho hd (wpAny_pure ?_))
      obtain ⟨hlt, _⟩ := Array.findIdx?_eq_some_iff_getElem.mp hi
      rw [Array.getElem?_push_lt hlt]
      have := h (s.toks + 1)
      simpa [hlt] using this
theorem in_odd {d : Addr} {o : Obj} {es : Array DictEntry} {ep : Nat} {hx : Int} {vu : Value} {vs : List (Key × Value)} {y : Str} {t : Tok} {Q : Value → Shared → Prop} (hu : A.units + 3 < cLine) (ho : s.heap.get? d = some o) (hc : o.ExactDict) (hd : o.data = .dict (es.push ⟨hx, u, vu⟩) ep) (hm : (d == sysModules) = false)
    (hk : KeysOf (mixKind P w) es) (hp : Pairs (mixKind P w) es.toList vs) (hn : (vs.map (·.1)).Nodup) (z : OddU s.heap u) (h : ∀ tk, Q (.bool (valueAt vs (.inr y)).isSome) { s with toks := tk }) :
    wpAny (model P w) A (compareOp .In (.str y t) (.ref d)) Q E s := by
  have hT : s.TypeIs (.ref d) "dict" := ⟨o, ho, hc.1⟩
  show wpAny _ _ (do return .bool (← contains (.ref d) (.str y t))) Q E s
  refine wpAny_bind ?_
  unfold contains
  try with_reducible refine wpAny_holding ?_
  refine wpAny_bind (wpAny_specialOf hT slot_dict_contains.lookup ?_)
  refine wpAny_ite_split (fun e => absurd e (by rw [beq_builtin_none]; exact Bool.false_ne_true)) fun _ => ?_
  refine wpAny_bind (wpAny_callSpecialUnlessNone?_slot (name := Str.ofString "__contains__") hT slot_dict_contains
    (wpAny_call_entry slot_dict_contains hT entry_dict_contains ?_ (args_dict_contains _ _)))
  refine wpAny_bind (m := dictGet d (.str y t)) (dictGet_odd (by rw [Around.in1_units]; omega) ho hd hk hp hn z fun tk => ?_)
  have h' := h tk
  cases hf : valueAt vs (.inr y) with
  | some v =>
    rw [hf] at h'
    exact (show wpAny _ _ (ret (.bool true)) _ _ _ from wpAny_pure ⟨_, rfl, wpAny_truthy_bool (wpAny_pure h')⟩)
  | none =>
    rw [hf] at h'
    exact wpAny_bind (m := Builtin.Dict.pendingKey? d (.str y t)) (wpAny_pendingKey_other hm (wpAny_pure ⟨_, rfl, wpAny_truthy_bool (wpAny_pure h')⟩))
theorem getItem_odd {d : Addr} {o : Obj} {es : Array DictEntry} {ep : Nat} {hx : Int} {v vu : Value} {vs : List (Key × Value)} {y : Str} {t : Tok} {Q : Value → Shared → Prop} (hu : A.units + 3 < cLine) (ho : s.heap.get? d = some o) (hc : o.ExactDict) (hd : o.data = .dict (es.push ⟨hx, u, vu⟩) ep)
    (hk : KeysOf (mixKind P w) es) (hp : Pairs (mixKind P w) es.toList vs) (hn : (vs.map (·.1)).Nodup) (z : OddU s.heap u) (hv : valueAt vs (.inr y) = some v) (h : ∀ tk, Q v { s with toks := tk }) :
    wpAny (model P w) A (getItem (.ref d) (.str y t)) Q E s := by
  have hT : s.TypeIs (.ref d) "dict" := ⟨o, ho, hc.1⟩
  unfold getItem
  try with_reducible refine wpAny_holding ?_
  refine wpAny_bind (wpAny_sequenceKey hT (by decide) ?_)
  refine wpAny_bind (wpAny_callSpecial?_slot (name := Str.ofString "__getitem__") hT slot_dict_getitem
    (wpAny_call_entry slot_dict_getitem hT entry_dict_getitem ?_ (args_dict_getitem _ _)))
  refine wpAny_bind (m := dictGet d (.str y t)) (dictGet_odd (by rw [Around.in1_units]; omega) ho hd hk hp hn z fun tk => ?_)
  rw [hv]
  exact wpAny_pure ⟨v, rfl, wpAny_pure (h tk)⟩
end
end L2

set_option maxRecDepth 100000
namespace L2
open PySem PySem.Spec PyProof.Rows
/-! ### going through the entries of a dict, whatever its keys are -/
noncomputable def RawD (h : Heap) (d : Addr) (es : Array DictEntry) (ep : Nat) : Prop := ∃ o, h.get? d = some o ∧ o.ExactDict ∧ o.data = .dict es ep
section
variable {P : Program} {w : World} {A : Around} {E : Value → Shared → Prop} {s : Shared} {d it : Addr} {es : Array DictEntry} {ep i : Nat}
theorem RawD.typeIs (z : RawD s.heap d es ep) : s.TypeIs (.ref d) "dict" := let ⟨o, ho, hc, _⟩ := z; ⟨o, ho, hc.1⟩
theorem raw_iter {Q : Value → Shared → Prop} (hm : (d == sysModules) = false) (z : RawD s.heap d es ep)
    (hQ : Q (.ref s.heap.objs.size) { s with heap := s.heap.push { cls := .type "dict_keyiterator", data := .fields #[.ref d, .int 0 0, .int es.size 0, .int ep 0] } }) :
    wpAny (model P w) A (pyIter (.ref d)) Q E s := by
  have hT := z.typeIs
  obtain ⟨o, ho, hc, hd⟩ := z
  refine wpAny_pyIter_slot hT F.slot_dict_iter (wpAny_call_entry F.slot_dict_iter hT F.entry_dict_iter ?_ (F.args_dict_iter_1 _))
  unfold Builtin.«dict.__iter__» Builtin.Dict.dictSlotNone
  refine wpAny_bind (wpAny_bind (wpAny_notOrdered_dict hT (wpAny_pure ?_)))
  refine wpAny_bind (m := Builtin.Dict.showsAll d) ?_
  unfold Builtin.Dict.showsAll
  rw [hm]
  refine wpAny_pure (wpAny_bind (wpAny_dictEntries ho hd (wpAny_bind (wpAny_dictEpoch ho hd (wpAny_bind (wpAny_newObj_type (wpAny_pure ⟨_, rfl, "dict_keyiterator", _, ⟨_, Heap.get?_push_size _ rfl, rfl⟩, F.slot_dict_keyiterator_next.lookup, ?_⟩)))))))
  simpa [rawInt] using hQ
theorem raw_item {Q : Option Value → Shared → Prop} (hit : s.heap.IsKeyIter it d i es.size ep) (z : RawD s.heap d es ep) (hi : i < es.size)
    (hQ : ∀ h', h'.IsKeyIter it d (i + 1) es.size ep → Heap.SameBut it s.heap h' → Q (some es[i].key) { s with heap := h' }) :
    wpAny (model P w) A (pyNext (.ref it)) Q E s := by
  have hT := hit.typeIs
  obtain ⟨o, ho, hc, hd⟩ := id hit
  obtain ⟨od, hod, hcd, hdd⟩ := z
  unfold pyNext
  refine wpAny_bind (wpAny_attempt (wpAny_callSpecial?_slot (name := Str.ofString "__next__") hT F.slot_dict_keyiterator_next (wpAny_call_entry F.slot_dict_keyiterator_next hT F.entry_dict_keyiterator_next ?_ (F.args_dict_keyiterator_next_1 _))))
  refine wpAny_bind (wpAny_pure (wpAny_bind (wpAny_bind ?_)))
  first | refine wpAny_bind (wpAny_typeNameOfWhole_keyiter hT (wpAny_pure ?_)) | refine wpAny_bind (wpAny_typeNameOf_keyiter hT (wpAny_pure ?_))
  refine wpAny_bind (wpAny_fieldsOf ho hd ?_)
  simp only [show Builtin.Dict_items.ownsTuple "dict_keyiterator" = false by decide, Bool.false_eq_true, if_false]
  refine wpAny_ite_split (fun e => absurd e Bool.false_ne_true) fun _ => wpAny_bind (wpAny_pure (wpAny_bind (wpAny_dictEntries hod hdd ?_)))
  rw [if_neg (by simp)]
  refine wpAny_bind (wpAny_pure (wpAny_bind (wpAny_dictEpoch hod hdd ?_)))
  rw [if_neg (by simp)]
  refine wpAny_pure ?_
  simp only [show ¬ ((i : Int) < 0) from by omega, if_false, Int.toNat_natCast, Array.getElem?_eq_getElem hi]
  refine wpAny_bind ?_
  first | refine wpAny_bind (wpAny_typeNameOfWhole_keyiter hT (wpAny_pure ?_)) | refine wpAny_bind (wpAny_typeNameOf_keyiter hT (wpAny_pure ?_))
  refine wpAny_bind (wpAny_isOneOf_keyiter hT ?_)
  refine wpAny_bind (m := setField (.ref it) 1 (rawInt ((i : Int) + 1))) (wpAny_setField ho hd (by simp) ?_)
  have hit' : (s.heap.update it (Obj.mapFields (·.setIfInBounds 1 (rawInt ((i : Int) + 1))))).IsKeyIter it d (i + 1) es.size ep :=
    ⟨_, Heap.get?_update_self _ ho (Obj.isFreed_of_fields (Obj.data_mapFields hd _)), (Obj.cls_mapFields ..).trans hc, by rw [Obj.data_mapFields hd]; simp [rawInt]⟩
  refine wpAny_bind (wpAny_holding (wpAny_bind (wpAny_isOneOf_keyiter (s := { s with heap := s.heap.update it (Obj.mapFields (·.setIfInBounds 1 (rawInt ((i : Int) + 1)))) }) hit'.typeIs ?_)))
  exact (show wpAny _ _ (pure es[i].key) _ _ _ from wpAny_pure (wpAny_pure ⟨_, rfl, wpAny_pure (hQ _ hit' (Heap.SameBut.update ..))⟩))
theorem raw_end {Q : Option Value → Shared → Prop} (hh : A.handled = none) (hit : s.heap.IsKeyIter it d i es.size ep) (z : RawD s.heap d es ep) (hi : es.size ≤ i)
    (hQ : ∀ h', Heap.ExtBut it s.heap h' → Q none { s with heap := h' }) : wpAny (model P w) A (pyNext (.ref it)) Q E s := by
  have hT := hit.typeIs
  obtain ⟨o, ho, hc, hd⟩ := id hit
  obtain ⟨od, hod, hcd, hdd⟩ := z
  unfold pyNext
  refine wpAny_bind (wpAny_attempt (wpAny_callSpecial?_slot (name := Str.ofString "__next__") hT F.slot_dict_keyiterator_next (wpAny_call_entry F.slot_dict_keyiterator_next hT F.entry_dict_keyiterator_next ?_ (F.args_dict_keyiterator_next_1 _))))
  refine wpAny_bind (wpAny_pure (wpAny_bind (wpAny_bind ?_)))
  first | refine wpAny_bind (wpAny_typeNameOfWhole_keyiter hT (wpAny_pure ?_)) | refine wpAny_bind (wpAny_typeNameOf_keyiter hT (wpAny_pure ?_))
  refine wpAny_bind (wpAny_fieldsOf ho hd ?_)
  simp only [show Builtin.Dict_items.ownsTuple "dict_keyiterator" = false by decide, Bool.false_eq_true, if_false]
  refine wpAny_ite_split (fun e => absurd e Bool.false_ne_true) fun _ => wpAny_bind (wpAny_pure (wpAny_bind (wpAny_dictEntries hod hdd ?_)))
  rw [if_neg (by simp)]
  refine wpAny_bind (wpAny_pure (wpAny_bind (wpAny_dictEpoch hod hdd ?_)))
  rw [if_neg (by simp)]
  refine wpAny_pure ?_
  simp only [show ¬ ((i : Int) < 0) from by omega, if_false, Int.toNat_natCast, Array.getElem?_eq_none hi]
  refine wpAny_bind ?_
  first | refine wpAny_bind (wpAny_typeNameOfWhole_keyiter hT (wpAny_pure ?_)) | refine wpAny_bind (wpAny_typeNameOf_keyiter hT (wpAny_pure ?_))
  refine wpAny_bind (m := setField (.ref it) 0 .none) (wpAny_setField ho hd (by simp) ?_)
  refine wpAny_bind (m := newExc (.type "StopIteration") []) ?_
  simp only [newExc, newTuple]
  refine wpAny_bind (wpAny_newObj_type ?_ (by size_fits))
  refine wpAny_bind (m := firstArgMember _ _) (wpAny_of_eq (a := Value.none) (by first | rfl | (simp only [firstArgMember]; rfl)) ?_)
  refine wpAny_newObj_type ?_ (by size_fits)
  simp only [raiseNew]
  refine wpAny_bind (wpAny_handled ?_)
  rw [show A.in1.handled = none from hh]
  refine wpAny_bind (wpAny_pure (wpAny_throw ?_))
  refine wpAny_bind (wpAny_isInstance (T := "StopIteration") (b := true) ⟨_, Heap.get?_push_size _ rfl, rfl⟩ isSubtype_stop ?_)
  exact wpAny_pure (hQ _ (((Heap.SameBut.update ..).extBut.push _).push _))
end
end L2

set_option maxRecDepth 100000
namespace L2
open PySem PySem.Spec PyProof.Rows
section
variable {P : Program} {w : World} {A : Around} {E : Value → Shared → Prop} {s : Shared} {d it : Addr} {es : Array DictEntry} {ep i : Nat}
theorem meets_rawItems (P : Program) (w : World) (d : Addr) (hm : (d == sysModules) = false) : MeetsIn P w (Builtin.«dict.items» ⟨[.ref d], []⟩)
    (fun _ R s => (∃ es ep, RawD s.heap d es ep) ∧ R (.ok (.ret (.ref s.heap.objs.size))) { s with heap := s.heap.push { cls := .type "dict_items", data := .fields #[.ref d] } }) :=
  .of_wp fun A R s ⟨⟨es, ep, z⟩, h⟩ => by
    unfold Builtin.«dict.items» Builtin.Dict.noArgs
    refine wpAny_bind (wpAny_bind (wpAny_notOrdered_dict z.typeIs (wpAny_pure ?_)))
    refine wpAny_bind (m := Builtin.Dict.showsAll d) ?_
    unfold Builtin.Dict.showsAll
    rw [hm]
    exact wpAny_pure (wpAny_bind (wpAny_newObj_type (wpAny_pure ⟨_, rfl, h⟩)))
theorem rawIs_iter {v : Addr} {Q : Value → Shared → Prop} (hv : s.heap.IsItemsView v d) (z : RawD s.heap d es ep)
    (hQ : Q (.ref s.heap.objs.size) { s with heap := s.heap.push { cls := .type "dict_itemiterator", data := .fields #[.none, .bool false, .ref d, .int 0 0, .int es.size 0, .int ep 0, .none, .none] } }) :
    wpAny (model P w) A (pyIter (.ref v)) Q E s := by
  have hT := hv.typeIs
  obtain ⟨ov, hov, hcv, hdv⟩ := hv
  obtain ⟨o, ho, hc, hd⟩ := z
  refine wpAny_pyIter_slot hT F.slot_dict_items_iter (wpAny_call_entry F.slot_dict_items_iter hT F.entry_dict_items_iter ?_ (F.args_dict_items_iter_1 _))
  unfold Builtin.«dict_items.__iter__»
  refine wpAny_bind (wpAny_pure (wpAny_bind ?_))
  unfold Builtin.Dict_items.dictOf
  refine wpAny_bind (wpAny_field hov hdv (x := .ref d) rfl (wpAny_pure (wpAny_bind ?_)))
  unfold Builtin.Dict_items.newIterator
  refine wpAny_bind (wpAny_dictEntries ho hd (wpAny_bind (wpAny_dictEpoch ho hd ?_)))
  simp only [show Builtin.Dict_items.ownsTuple "dict_itemiterator" = true by decide, if_true]
  refine wpAny_newObj_type (wpAny_pure ⟨_, rfl, "dict_itemiterator", _, ⟨_, Heap.get?_push_size _ rfl, rfl⟩, F.slot_dict_itemiterator_next.lookup, ?_⟩)
    (by simp only [sizeOk, Builtin.Dict_items.ownedTupleFields, List.size_toArray, List.length_append, List.length_cons, List.length_nil, sizeLine_eq]; omega)
  simpa [rawInt, Builtin.Dict_items.ownedTupleFields] using hQ
theorem rawIs_item {ok ov : Value} {Q : Option Value → Shared → Prop} (hit : IsItemIter s.heap it d i es.size ep ok ov) (z : RawD s.heap d es ep) (hi : i < es.size)
    (hQ : ∀ h', IsItemIterOut h' it d (i + 1) es.size ep es[i].key es[i].val s.heap.objs.size →
      h'.get? s.heap.objs.size = some { cls := .type "tuple", data := .seq #[es[i].key, es[i].val] } → h'.objs.size = s.heap.objs.size + 1 →
      (∀ b o, b ≠ it → s.heap.get? b = some o → h'.get? b = some o) → Q (some (.ref s.heap.objs.size)) { s with heap := h' }) :
    wpAny (model P w) A (pyNext (.ref it)) Q E s := by
  obtain ⟨hp, g, dr, tk, os⟩ := s
  obtain ⟨od, hod, hcd, hdd⟩ := z
  have hT : Shared.TypeIs ⟨hp, g, dr, tk, os⟩ (.ref it) "dict_itemiterator" := ⟨_, hit, rfl⟩
  have hil : it < hp.objs.size := Heap.lt_size hit
  have hne : hp.objs.size ≠ it := Nat.ne_of_gt hil
  unfold pyNext
  refine wpAny_bind (wpAny_attempt (wpAny_callSpecial?_slot (name := Str.ofString "__next__") hT F.slot_dict_itemiterator_next (wpAny_call_entry F.slot_dict_itemiterator_next hT F.entry_dict_itemiterator_next ?_ (F.args_dict_itemiterator_next_1 _))))
  refine wpAny_bind (wpAny_pure (wpAny_bind (wpAny_bind ?_)))
  first | refine wpAny_bind (wpAny_typeNameOfWhole_itemiter hT (wpAny_pure ?_)) | refine wpAny_bind (wpAny_typeNameOf_itemiter hT (wpAny_pure ?_))
  refine wpAny_bind (wpAny_fieldsOf hit rfl ?_)
  simp only [show Builtin.Dict_items.ownsTuple "dict_itemiterator" = true by decide, if_true]
  refine wpAny_ite_split (fun e => absurd e Bool.false_ne_true) fun _ => wpAny_bind (wpAny_pure (wpAny_bind (wpAny_dictEntries hod hdd ?_)))
  rw [if_neg (by simp)]
  refine wpAny_bind (wpAny_pure (wpAny_bind (wpAny_dictEpoch hod hdd ?_)))
  rw [if_neg (by simp)]
  refine wpAny_pure ?_
  simp only [show ¬ ((i : Int) < 0) from by omega, if_false, Int.toNat_natCast, Array.getElem?_eq_getElem hi]
  refine wpAny_bind ?_
  first | refine wpAny_bind (wpAny_typeNameOfWhole_itemiter hT (wpAny_pure ?_)) | refine wpAny_bind (wpAny_typeNameOf_itemiter hT (wpAny_pure ?_))
  refine wpAny_bind (wpAny_isOneOf_itemiter hT ?_)
  refine wpAny_bind (m := setField (.ref it) 3 (rawInt ((i : Int) + 1))) (wpAny_setField_rec hit (by simp) fun h1 e1 sb1 => ?_)
  replace sb1 : Heap.SameBut it hp h1 := sb1
  replace e1 : IsItemIter h1 it d (i + 1) es.size ep ok ov := by
    have e : ((i + 1 : Nat) : Int) = (i : Int) + 1 := by omega
    unfold IsItemIter; rw [e]; simpa [rawInt] using e1
  have hT1 : Shared.TypeIs ⟨h1, g, dr, tk, os⟩ (.ref it) "dict_itemiterator" := ⟨_, e1, rfl⟩
  refine wpAny_bind (wpAny_holding (wpAny_bind (wpAny_isOneOf_itemiter hT1 (wpAny_bind (wpAny_isOneOf_itemiter hT1 ?_)))))
  show wpAny _ _ (Builtin.Dict_items.pairFromOwner (.ref it) 6 es[i].key es[i].val) _ _ ⟨h1, g, dr, tk, os⟩
  unfold Builtin.Dict_items.pairFromOwner
  refine wpAny_bind (wpAny_newTuple ?_)
  have z1 : h1.objs.size = hp.objs.size := sb1.1
  obtain ⟨h2, hh2⟩ : ∃ h2, h2 = h1.push { cls := .type "tuple", data := .seq #[es[i].key, es[i].val] } := ⟨_, rfl⟩
  have e2 : IsItemIter h2 it d (i + 1) es.size ep ok ov := hh2 ▸ Heap.get?_push_of_some _ e1
  have t2 : h2.get? hp.objs.size = some { cls := .type "tuple", data := .seq #[es[i].key, es[i].val] } := by rw [hh2, ← z1]; exact Heap.get?_push_size _ rfl
  have z2 : h2.objs.size = hp.objs.size + 1 := by rw [hh2, Heap.size_push, z1]
  have k2 : ∀ b o, b ≠ it → hp.get? b = some o → h2.get? b = some o := fun b o hb e => by rw [hh2]; exact Heap.get?_push_of_some _ (sb1.extBut b o hb e)
  rw [← hh2]
  show wpAny _ _ (Builtin.Dict_items.ownedTupleIsFree (.ref it) >>= _) _ _ ⟨h2, g, dr, tk, os⟩
  rw [z1]
  clear hh2 e1 sb1 hT1 z1 h1
  refine wpAny_bind ?_
  unfold Builtin.Dict_items.ownedTupleIsFree
  refine wpAny_bind (wpAny_field e2 rfl (x := .none) rfl (wpAny_pure ?_))
  simp only [if_true]
  refine wpAny_bind (wpAny_field e2 rfl (x := ok) rfl (wpAny_bind (wpAny_field e2 rfl (x := ov) rfl ?_)))
  refine wpAny_bind (wpAny_setField_rec e2 (by simp) fun h3 e3 sb3 => ?_)
  replace sb3 : Heap.SameBut it h2 h3 := sb3
  refine wpAny_bind (wpAny_setField_rec (show IsItemIter h3 it d (i + 1) es.size ep es[i].key ov from e3) (by simp) fun h4 e4 sb4 => ?_)
  replace sb4 : Heap.SameBut it h3 h4 := sb4
  refine wpAny_bind (wpAny_setField_rec (show IsItemIter h4 it d (i + 1) es.size ep es[i].key es[i].val from e4) (by simp) fun h5 e5 sb5 => ?_)
  replace sb5 : Heap.SameBut it h4 h5 := sb5
  refine wpAny_bind (wpAny_setField_rec (show IsItemIterOut h5 it d (i + 1) es.size ep es[i].key es[i].val hp.objs.size from e5) (by simp) fun h6 e6 sb6 => ?_)
  replace sb6 : Heap.SameBut it h5 h6 := sb6
  have all : ∀ b o, b ≠ it → h2.get? b = some o → h6.get? b = some o := fun b o hb e => sb6.extBut b o hb (sb5.extBut b o hb (sb4.extBut b o hb (sb3.extBut b o hb e)))
  exact wpAny_bind (wpAny_letGo (wpAny_pure (wpAny_pure ⟨_, rfl, wpAny_pure (hQ h6 e6 (all _ _ hne t2) (show h6.objs.size = hp.objs.size + 1 by rw [sb6.1, sb5.1, sb4.1, sb3.1, z2]) fun b o hb e => all b o hb (k2 b o hb e))⟩)))
theorem rawIs_end {ok ov : Value} {Q : Option Value → Shared → Prop} (hh : A.handled = none) (hit : IsItemIter s.heap it d i es.size ep ok ov) (z : RawD s.heap d es ep) (hi : es.size ≤ i)
    (hQ : ∀ h', Heap.ExtBut it s.heap h' → Q none { s with heap := h' }) : wpAny (model P w) A (pyNext (.ref it)) Q E s := by
  obtain ⟨od, hod, hcd, hdd⟩ := z
  have hT : s.TypeIs (.ref it) "dict_itemiterator" := ⟨_, hit, rfl⟩
  unfold pyNext
  refine wpAny_bind (wpAny_attempt (wpAny_callSpecial?_slot (name := Str.ofString "__next__") hT F.slot_dict_itemiterator_next (wpAny_call_entry F.slot_dict_itemiterator_next hT F.entry_dict_itemiterator_next ?_ (F.args_dict_itemiterator_next_1 _))))
  refine wpAny_bind (wpAny_pure (wpAny_bind (wpAny_bind ?_)))
  first | refine wpAny_bind (wpAny_typeNameOfWhole_itemiter hT (wpAny_pure ?_)) | refine wpAny_bind (wpAny_typeNameOf_itemiter hT (wpAny_pure ?_))
  refine wpAny_bind (wpAny_fieldsOf hit rfl ?_)
  simp only [show Builtin.Dict_items.ownsTuple "dict_itemiterator" = true by decide, if_true]
  refine wpAny_ite_split (fun e => absurd e Bool.false_ne_true) fun _ => wpAny_bind (wpAny_pure (wpAny_bind (wpAny_dictEntries hod hdd ?_)))
  rw [if_neg (by simp)]
  refine wpAny_bind (wpAny_pure (wpAny_bind (wpAny_dictEpoch hod hdd ?_)))
  rw [if_neg (by simp)]
  refine wpAny_pure ?_
  simp only [show ¬ ((i : Int) < 0) from by omega, if_false, Int.toNat_natCast, Array.getElem?_eq_none hi]
  refine wpAny_bind ?_
  first | refine wpAny_bind (wpAny_typeNameOfWhole_itemiter hT (wpAny_pure ?_)) | refine wpAny_bind (wpAny_typeNameOf_itemiter hT (wpAny_pure ?_))
  refine wpAny_bind (m := setField (.ref it) 2 .none) (wpAny_setField hit rfl (by simp) ?_)
  refine wpAny_bind (m := newExc (.type "StopIteration") []) ?_
  simp only [newExc, newTuple]
  refine wpAny_bind (wpAny_newObj_type ?_ (by size_fits))
  refine wpAny_bind (m := firstArgMember _ _) (wpAny_of_eq (a := Value.none) (by first | rfl | (simp only [firstArgMember]; rfl)) ?_)
  refine wpAny_newObj_type ?_ (by size_fits)
  simp only [raiseNew]
  refine wpAny_bind (wpAny_handled ?_)
  rw [show A.in1.handled = none from hh]
  refine wpAny_bind (wpAny_pure (wpAny_throw ?_))
  refine wpAny_bind (wpAny_isInstance (T := "StopIteration") (b := true) ⟨_, Heap.get?_push_size _ rfl, rfl⟩ isSubtype_stop ?_)
  exact wpAny_pure (hQ _ (((Heap.SameBut.update ..).extBut.push _).push _))
end
end L2

set_option maxRecDepth 100000
namespace L2
open PySem PySem.Spec PyProof.Rows
/-! ### a dict that is only read from now on; its last key may be an odd one -/
noncomputable def fixO (a : Addr) (o : Obj) : HO := .ext fun h => h.get? a = some o ∧ (a == sysModules) = false
noncomputable def LastD (es0 es : Array DictEntry) : Option (V × V) → Prop
  | none => es = es0
  | some p => ∃ hx u vu, es = es0.push ⟨hx, u, vu⟩ ∧ RelV p.1 u ∧ RelV p.2 vu
noncomputable def FixD (P : Program) (w : World) (o : Obj) (kvs : List (Key × V)) (last : Option (V × V)) : Prop := o.ExactDict ∧ ∃ es0 es ep vs, o.data = .dict es ep ∧ KeysOf (mixKind P w) es0 ∧ Pairs (mixKind P w) es0.toList vs ∧ (vs.map (·.1)).Nodup ∧ KV kvs vs ∧ LastD es0 es last
noncomputable def ents (kvs : List (Key × V)) (last : Option (V × V)) : List (V × V) := kvs.map (fun p => (kV p.1, p.2)) ++ last.toList
/-- None, True, an int, a tuple of one text -/
noncomputable def OddV (H : Hp) (v : V) : Prop := v = .non ∨ v = .bl true ∨ (∃ i, v = .int i) ∨ ∃ T x, v = .ref T ∧ H T = some (.tup [.str x])
theorem fix_raw {P : Program} {w : World} {o : Obj} {kvs : List (Key × V)} {last : Option (V × V)} (f : FixD P w o kvs last) :
    ∃ es ep, o.ExactDict ∧ o.data = .dict es ep ∧ (ents kvs last).length = es.size ∧ ∀ (i : Nat) (p : V × V), (ents kvs last)[i]? = some p → ∃ hi : i < es.size, RelV p.1 es[i].key ∧ RelV p.2 es[i].val := by
  obtain ⟨hx, es0, es, ep, vs, hd, hk, hp, hn, hkv, hl⟩ := f
  have l0 : kvs.length = es0.size := by rw [(kv_at hkv).1, ← hp.length]; simp
  have front : ∀ (i : Nat) (p : V × V), (kvs.map fun p => (kV p.1, p.2))[i]? = some p → ∃ hi : i < es0.size, RelV p.1 es0[i].key ∧ RelV p.2 es0[i].val := fun i p e => by
    rw [List.getElem?_map] at e
    cases hq : kvs[i]? with
    | none => rw [hq] at e; cases e
    | some q =>
      rw [hq] at e
      cases e
      obtain ⟨x, hx', rx⟩ := kv_got hkv i q.1 q.2 (by rw [hq])
      have hi : i < es0.size := by
        rw [← l0]
        exact (List.getElem?_eq_some_iff.mp hq).1
      obtain ⟨k1, k2⟩ := hp.get? (e := es0[i]) (by simp [hi]) hx'
      exact ⟨hi, key_rel k1, by rw [k2]; exact rx⟩
  cases last with
  | none =>
    obtain rfl : es = es0 := hl
    refine ⟨es, ep, hx, hd, by simp [ents, l0], fun i p e => front i p (by simpa [ents] using e)⟩
  | some q =>
    obtain ⟨h1, u, vu, rfl, ru, rv⟩ := hl
    refine ⟨_, ep, hx, hd, by simp [ents, l0], fun i p e => ?_⟩
    unfold ents at e
    by_cases hi : i < kvs.length
    · rw [List.getElem?_append_left (by simpa using hi)] at e
      obtain ⟨z, z1, z2⟩ := front i p e
      refine ⟨by rw [Array.size_push]; omega, ?_⟩
      rw [Array.getElem_push_lt z]; exact ⟨z1, z2⟩
    · rw [List.getElem?_append_right (by simpa using hi)] at e
      have hi0 : i - kvs.length = 0 := by
        have := (List.getElem?_eq_some_iff.mp e).1
        simp at this
        omega
      have ei : i = es0.size := by omega
      subst ei
      have : p = q := by rw [List.length_map, hi0] at e; simpa using e.symm
      subst this
      refine ⟨by simp, ?_⟩
      simp only [Array.getElem_push_eq]
      exact ⟨ru, rv⟩
theorem fix_ok {P : Program} {w : World} {H : Hp} {h : Heap} {a : Addr} {o : Obj} (ok : HOk P w H h) (e : H a = some (fixO a o)) : h.get? a = some o ∧ (a == sysModules) = false :=
  (show ObjOk P w H h a (fixO a o) from ok a _ e).1
theorem fix_new {P : Program} {w : World} {H : Hp} {h : Heap} {a : Addr} {o : Obj} (e : h.get? a = some o) (hm : (a == sysModules) = false) : ObjOk P w H h a (fixO a o) :=
  ⟨⟨e, hm⟩, ⟨o, e⟩, fun h1 h2 q k => ⟨k o q.1, q.2⟩⟩
/-- the dict at a, to be read -/
noncomputable def DAt (P : Program) (w : World) (H : Hp) (a : Addr) (kvs : List (Key × V)) (last : Option (V × V)) : Prop :=
  (H a = some (.dK kvs) ∧ last = none) ∨ ∃ o, H a = some (fixO a o) ∧ FixD P w o kvs last
theorem fix_of {P : Program} {w : World} {H : Hp} {h : Heap} {a : Addr} {kvs : List (Key × V)} (ok : HOk P w H h) (e : H a = some (.dK kvs)) : ∃ o, h.get? a = some o ∧ (a == sysModules) = false ∧ FixD P w o kvs none := by
  obtain ⟨hz, lo, vs, hkv, o, es, ep, ho, hx, hdat, hk, hp, hn⟩ := (show ObjOk P w H h a (.dK kvs) from ok a _ e)
  exact ⟨o, ho, lo, hx, es, es, ep, vs, hdat, hk, hp, hn, hkv, rfl⟩
/-- holding it fast -/
theorem Inv.fix {X : Cx} {pins : List (Addr × Obj)} {σ : St} {H : Hp} {s : Shared} {a : Addr} {kvs : List (Key × V)} {last : Option (V × V)} (I : Inv X pins σ H s) (d : DAt X.prog X.w H a kvs last) :
    ∃ o, s.heap.get? a = some o ∧ (a == sysModules) = false ∧ FixD X.prog X.w o kvs last ∧ Inv X pins σ (upd H a (fixO a o)) s := by
  rcases d with ⟨e, rfl⟩ | ⟨o, e, f⟩
  · obtain ⟨o, ho, lo, f⟩ := fix_of I.hok e
    refine ⟨o, ho, lo, f, ?_⟩
    exact (show Inv X pins σ (upd H a (fixO a o)) { s with heap := s.heap, toks := s.toks } from I.write (x := a) (e := a) (h' := s.heap) (by rw [e]; exact trivial) (.inl rfl) (fun b u _ e => e) ⟨o, ho⟩ (fix_new ho lo))
  · obtain ⟨ho, lo⟩ := fix_ok I.hok e
    refine ⟨o, ho, lo, f, ?_⟩
    have eu : upd H a (fixO a o) = H := by
      funext b
      by_cases z : b = a
      · subst z; rw [upd_same]; exact e.symm
      · rw [upd_ne z]
    rw [eu]; exact I
/-! ### for k in d -/
noncomputable def ItR (a : Addr) (o : Obj) (ps : List (V × V)) : It where
  go := fun i H => i < ps.length ∧ H a = some (fixO a o)
  yld := fun i H x H' => H' = H ∧ ∃ k v, ps[i]? = some (k, v) ∧ x = k
  stop := fun i H => ps.length ≤ i ∧ H a = some (fixO a o)
theorem turn_raw {P : Program} {w : World} {K : PySem.W.Frag} {tg : Expr} {a it : Addr} {o : Obj} {ps : List (V × V)} {es : Array DictEntry} {ep : Nat} (hx : o.ExactDict) (hd : o.data = .dict es ep) (hl : ps.length = es.size)
    (hps : ∀ (i : Nat) (p : V × V), ps[i]? = some p → ∃ hi : i < es.size, RelV p.1 es[i].key ∧ RelV p.2 es[i].val) : Turn P w K tg (ItR a o ps) [it] it (fun i h => h.IsKeyIter it a i es.size ep) where
  mem := by simp
  obj := fun i h st b hb => by
    have e : b = it := by simpa using hb
    subst e
    obtain ⟨o, e, c, d⟩ := st
    exact ⟨o, e, fun v z => by rw [d] at z; cases z⟩
  keep := fun i h h' st k => st.at fun o e => k it (by simp) o e
  item := by
    intro X hP hw hK hc i pins s σ H E I hf st hg
    subst hP hw hK
    obtain ⟨hi, hH⟩ := hg
    obtain ⟨ho, _⟩ := fix_ok I.hok hH
    have hi' : i < es.size := by rw [← hl]; exact hi
    obtain ⟨f0, f1, f2, f3, f4, f5⟩ := hf it (by simp)
    refine raw_item st ⟨o, ho, hx, hd⟩ hi' fun h' hit' hs' => ?_
    have I1 : Inv X pins σ H { s with heap := h' } := I.turned (t' := s.toks) (fun b o hb e => hs'.extBut b o hb e) f0 f1 f3 f4 f5
    obtain ⟨o', e', c', d'⟩ := id hit'
    have hp : ps[i]? = some (ps[i].1, ps[i].2) := by simp [hi]
    obtain ⟨_, rk, _⟩ := hps i _ hp
    exact ⟨_, rfl, go_of (s := { s with heap := h' }) e' c' d' (by decide) ⟨ps[i].1, H, I1, rk, ⟨rfl, _, _, hp, rfl⟩, hit', fun b hb => (hf b hb).1⟩⟩
  done := by
    intro X hP hw hK hc i pins s σ H E I hf st hg
    subst hP hw hK
    obtain ⟨hi, hH⟩ := hg
    obtain ⟨ho, _⟩ := fix_ok I.hok hH
    obtain ⟨f0, f1, f2, f3, f4, f5⟩ := hf it (by simp)
    exact raw_end (I.ok.hd hc) st ⟨o, ho, hx, hd⟩ (by rw [← hl]; exact hi) fun h' eb => ⟨rfl, I.turned (t' := s.toks) (fun b o hb e => eb b o hb e) f0 f1 f3 f4 f5⟩
  self := fun _ _ _ _ _ st h => wpAny_pyIter_keyiter st h
section
variable {X : Cx} {tg : Expr}
noncomputable def iDictR (P : Program) (w : World) (tl : TE) : TI := fun σ H R => tl σ H fun x H1 => ∃ a kvs last, x = .ref a ∧ DAt P w H1 a kvs last ∧ ∀ o, FixD P w o kvs last → R (ItR a o (ents kvs last)) (upd H1 a (fixO a o))
theorem pi_dictR {l : Expr} {tl : TE} (hl : PE X l tl) : PI X tg l (iDictR X.prog X.w tl) := by
  intro pins s σ H R I h
  refine thn (hl pins s σ H _ I h) fun v s1 ⟨x, H1, I1, r1, q1⟩ => ?_
  obtain ⟨a, kvs, last, rfl, hD, q⟩ := q1
  cases r1
  obtain ⟨o, ho, lo, f, I2⟩ := I1.fix hD
  obtain ⟨es, ep, hx, hd, hl, hps⟩ := fix_raw f
  refine raw_iter lo ⟨o, ho, hx, hd⟩ ?_
  refine ⟨s1.heap.objs.size, [s1.heap.objs.size], _, _, _, rfl, I2.kept (t' := s1.toks) fun b o e => Heap.get?_push_of_some _ e, turn_raw hx hd hl hps, ⟨_, Heap.get?_push_size _ rfl, rfl, rfl⟩, fun b hb => ?_, q o f⟩
  have e : b = s1.heap.objs.size := by simpa using hb
  subst e
  exact I2.fpOk (Nat.le_refl _) (I2.hok.fresh (Nat.le_refl _))
theorem qi_dictR {P : Program} {w : World} (eP : X.prog = P) (ew : X.w = w) {l : Expr} {tl : TE} (hl : QE X l tl) : QI X tg l (iDictR P w tl) := eP ▸ ew ▸ ⟨pi_dictR hl.h⟩
end
theorem for_dictR {a : Addr} {o : Obj} {ps : List (V × V)} {g : TG} {tb : TS} {D : Ends} {σ : St} {H : Hp} (Pv : Nat → St → Hp → Prop) (h0 : Pv 0 σ H) (hl : ∀ i σ H, i ≤ ps.length → Pv i σ H → H a = some (fixO a o))
    (hs : ∀ i k v σ H, ps[i]? = some (k, v) → Pv i σ H → g k σ H fun σ2 H2 => tb { D with nx := Pv (i + 1), ct := Pv (i + 1), bk := D.nx } σ2 H2) (hd : ∀ σ H, Pv ps.length σ H → D.nx σ H) :
    ∃ W : Nat → Nat → St → Hp → Prop, (∃ m, W 0 m σ H) ∧ ∀ i m σ H, W i m σ H →
      ((ItR a o ps).stop i H ∧ D.nx σ H) ∨ ((ItR a o ps).go i H ∧ ∃ N : St → Hp → Prop, (∀ σ' H', N σ' H' → ∃ m', m' < m ∧ W (i + 1) m' σ' H') ∧ ∀ x H', (ItR a o ps).yld i H x H' → g x σ H' fun σ2 H2 => tb { D with nx := N, ct := N, bk := D.nx } σ2 H2) := by
  refine ⟨fun i m σ H => m = ps.length - i ∧ i ≤ ps.length ∧ Pv i σ H, ⟨ps.length, by simp, Nat.zero_le _, h0⟩, ?_⟩
  rintro i m σ H ⟨rfl, hi, p⟩
  have q := hl i σ H hi p
  by_cases hlt : i < ps.length
  · refine .inr ⟨⟨hlt, q⟩, Pv (i + 1), fun σ' H' p' => ⟨ps.length - (i + 1), by omega, rfl, hlt, p'⟩, fun x H' y => ?_⟩
    obtain ⟨e, k, v, hk, ex⟩ := y
    subst e ex
    exact hs i _ v σ _ hk p
  · have e : i = ps.length := by omega
    subst e
    exact .inl ⟨⟨Nat.le_refl _, q⟩, hd σ H p⟩
end L2

set_option maxRecDepth 100000
namespace L2
open PySem PySem.Spec PyProof.Rows
/-! ### for k, v in d.items() -/
noncomputable def ItS (a : Addr) (o : Obj) (ps : List (V × V)) : It where
  go := fun i H => i < ps.length ∧ H a = some (fixO a o)
  yld := fun i H x H' => ∃ T k v, x = .ref T ∧ H T = none ∧ ps[i]? = some (k, v) ∧ H' = upd H T (.tup [k, v])
  stop := fun i H => ps.length ≤ i ∧ H a = some (fixO a o)
theorem turn_rawIs {P : Program} {w : World} {K : PySem.W.Frag} {elts : List Expr} {k : Nat} {pos : Pos} {a it : Addr} {o : Obj} {ps : List (V × V)} {es : Array DictEntry} {ep : Nat} (hx : o.ExactDict) (hd : o.data = .dict es ep) (hl : ps.length = es.size)
    (hps : ∀ (i : Nat) (p : V × V), ps[i]? = some p → ∃ hi : i < es.size, RelV p.1 es[i].key ∧ RelV p.2 es[i].val) : Turn P w K (.Tuple elts k pos) (ItS a o ps) [it] it (fun i h => ∃ ok ov, IsItemIter h it a i es.size ep ok ov) where
  mem := by simp
  obj := fun i h st b hb => by
    have e : b = it := by simpa using hb
    subst e
    obtain ⟨ok, ov, e⟩ := st
    exact ⟨_, e, fun v z => by cases z⟩
  keep := fun i h h' st kp => by
    obtain ⟨ok, ov, e⟩ := st
    exact ⟨ok, ov, kp it (by simp) _ e⟩
  item := by
    intro X hP hw hK hc i pins s σ H E I hf st hg
    subst hP hw hK
    obtain ⟨hi, hH⟩ := hg
    obtain ⟨ho, _⟩ := fix_ok I.hok hH
    have hi' : i < es.size := by rw [← hl]; exact hi
    obtain ⟨ok, ov, st⟩ := st
    refine rawIs_item st ⟨o, ho, hx, hd⟩ hi' fun h1 hout hT hsz kp => ?_
    refine ⟨.ref s.heap.objs.size, rfl, wpAny_letOwnedTupleGo_items hout fun h2 hit2 sb => ?_⟩
    have hilt : it < s.heap.objs.size := Heap.lt_size st
    have J : Inv X pins σ H { s with heap := h2, toks := s.toks } := I.turnedL (ch := [it]) (fun b hb => hf b hb) fun b o hb z => by
      have hb' : b ≠ it := fun e => hb (by simp [e])
      exact sb.extBut b o hb' (kp b o hb' z)
    have hT0 : H s.heap.objs.size = none := I.hok.fresh (Nat.le_refl _)
    have nT : s.heap.objs.size ≠ it := Nat.ne_of_gt hilt
    have fp := I.fpOk (H' := H) (Nat.le_refl s.heap.objs.size) hT0
    have hp : ps[i]? = some (ps[i].1, ps[i].2) := by simp [hi]
    obtain ⟨_, rk, rv⟩ := hps i _ hp
    refine ⟨.ref s.heap.objs.size, upd H s.heap.objs.size (.tup [ps[i].1, ps[i].2]), J.track hT0 ?_ fp.2.1 fp.2.2.2.2.1 fp.2.2.2.2.2 ?_, rfl, ⟨_, _, _, rfl, hT0, hp, rfl⟩, ⟨_, _, hit2⟩, fun b hb => ?_⟩
    · cases z : X.s₀.heap.get? s.heap.objs.size with
      | none => rfl
      | some o => exact absurd (Heap.lt_size z) (Nat.not_lt.mpr I.sz)
    · exact ⟨by show 2 ≤ sizeLine; rw [sizeLine_eq]; decide, [es[i].key, es[i].val], .cons rk (.cons rv .nil), ⟨_, sb.extBut _ _ nT hT, rfl, 0, rfl⟩⟩
    · have nb : b ≠ s.heap.objs.size := fun z => nT (by rw [← z]; simpa using hb)
      rw [upd_ne nb]; exact (hf b hb).1
  done := by
    intro X hP hw hK hc i pins s σ H E I hf st hg
    subst hP hw hK
    obtain ⟨hi, hH⟩ := hg
    obtain ⟨ho, _⟩ := fix_ok I.hok hH
    obtain ⟨ok, ov, st⟩ := st
    exact rawIs_end (I.ok.hd hc) st ⟨o, ho, hx, hd⟩ (by rw [← hl]; exact hi) fun h' eb => ⟨rfl, I.turnedL (t' := s.toks) (ch := [it]) (fun b hb => hf b hb) fun b o hb z => eb b o (fun e => hb (by simp [e])) z⟩
  self := fun A i s Q E st h => by
    obtain ⟨ok, ov, e⟩ := st
    have hT : s.TypeIs (.ref it) "dict_itemiterator" := ⟨_, e, rfl⟩
    refine wpAny_pyIter_slot hT PySem.F.slot_dict_itemiterator_iter (wpAny_call_entry PySem.F.slot_dict_itemiterator_iter hT SI.itE ?_ (PySem.F.args_dict_itemiterator_iter_1 _))
    show wpAny _ _ (ret (.ref it)) _ _ s
    exact wpAny_pure ⟨_, rfl, "dict_itemiterator", _, hT, PySem.F.slot_dict_itemiterator_next.lookup, h⟩
noncomputable def iItemsR (P : Program) (w : World) (tl : TE) : TI := fun σ H R => tl σ H fun x H1 => ∃ a kvs last, x = .ref a ∧ DAt P w H1 a kvs last ∧ ∀ o, FixD P w o kvs last → R (ItS a o (ents kvs last)) (upd H1 a (fixO a o))
theorem pi_itemsR {X : Cx} {elts : List Expr} {k : Nat} {tp : Pos} {o : Expr} {to : TE} {apos cpos : Pos} (ho : PE X o to)
    (hbase : attributeBase o "items" X.env (eval o X.env) = eval o X.env := by rfl) (hline : (apos.endLine == cpos.line) = true := by rfl) :
    PI X (.Tuple elts k tp) (.Call (.Attribute o "items" apos) [] [] cpos) (iItemsR X.prog X.w to) := by
  intro pins s σ H R I h
  refine wpAny_Call_method0_late hbase hline (thn (ho pins s σ H _ I h) fun v s1 ⟨x, H1, I1, r1, a, kvs, last, ex, ha, q⟩ => ?_)
  subst ex
  obtain rfl : v = Value.ref a := r1
  obtain ⟨od, hod, lo, f, I2⟩ := I1.fix ha
  obtain ⟨es, ep, hx, hd, hl, hps⟩ := fix_raw f
  have t1 : s1.TypeIs (.ref a) "dict" := ⟨od, hod, hx.1⟩
  have t2 : ∀ b, Value.ref a = .ref b → ∃ ob, s1.heap.get? b = some ob ∧ ob.dict = none := fun b q => by cases q; exact ⟨od, hod, hx.2.1⟩
  refine ⟨"dict", "dict.items", PySem.F.plainAttrs_dict, PySem.F.slot_dict_items, PySem.F.type_dict_items, t1, t2, Calls.callWith_builtin rfl (PySem.evalArgs_none ?_)⟩
  refine call_meetsIn PySem.F.slot_dict_items t1 PySem.F.entry_dict_items (PySem.F.args_dict_items_1 _) (meets_rawItems X.prog X.w a lo) ⟨⟨es, ep, od, hod, hx, hd⟩, ?_⟩
  have hlt : a < s1.heap.objs.size := Heap.lt_size hod
  have hk1 : ∀ b u, s1.heap.get? b = some u → (s1.heap.push { cls := .type "dict_items", data := .fields #[.ref a] }).get? b = some u := fun b u e => Heap.get?_push_of_some _ e
  have hsz : (s1.heap.push { cls := .type "dict_items", data := .fields #[.ref a] }).objs.size = s1.heap.objs.size + 1 := by simp [Heap.push]
  have hview : (s1.heap.push { cls := .type "dict_items", data := .fields #[.ref a] }).IsItemsView s1.heap.objs.size a := ⟨_, Heap.get?_push_size _ rfl, rfl, rfl⟩
  refine rawIs_iter (s := { s1 with heap := s1.heap.push { cls := .type "dict_items", data := .fields #[.ref a] } }) hview ⟨od, hk1 _ _ hod, hx, hd⟩ ?_
  have I3 := I2.kept (t' := s1.toks) (h' := (s1.heap.push { cls := .type "dict_items", data := .fields #[.ref a] }).push { cls := .type "dict_itemiterator", data := .fields #[.none, .bool false, .ref a, .int 0 0, .int es.size 0, .int ep 0, .none, .none] }) fun b o e => Heap.get?_push_of_some _ (hk1 b o e)
  refine ⟨(s1.heap.push { cls := .type "dict_items", data := .fields #[.ref a] }).objs.size, [(s1.heap.push { cls := .type "dict_items", data := .fields #[.ref a] }).objs.size], _, _, _, rfl, I3, turn_rawIs hx hd hl hps, ⟨.none, .none, Heap.get?_push_size _ rfl⟩, fun b hb => ?_, q od f⟩
  have e : b = (s1.heap.push { cls := .type "dict_items", data := .fields #[.ref a] }).objs.size := by simpa using hb
  subst e
  exact I2.fpOk (by rw [hsz]; exact Nat.le_succ _) (I2.hok.fresh (by rw [hsz]; exact Nat.le_succ _))
theorem qi_itemsR {P : Program} {w : World} {X : Cx} (eP : X.prog = P) (ew : X.w = w) {elts : List Expr} {k : Nat} {tp : Pos} {o : Expr} {to : TE} {apos cpos : Pos} (ho : QE X o to)
    (hbase : attributeBase o "items" X.env (eval o X.env) = eval o X.env := by rfl) (hline : (apos.endLine == cpos.line) = true := by rfl) :
    QI X (.Tuple elts k tp) (.Call (.Attribute o "items" apos) [] [] cpos) (iItemsR P w to) := eP ▸ ew ▸ ⟨pi_itemsR ho.h hbase hline⟩
theorem for_itemsR {a : Addr} {o : Obj} {ps : List (V × V)} {g : TG} {tb : TS} {D : Ends} {σ : St} {H : Hp} (Pv : Nat → St → Hp → Prop) (h0 : Pv 0 σ H) (hl : ∀ i σ H, i ≤ ps.length → Pv i σ H → H a = some (fixO a o))
    (hs : ∀ i k v T σ H, ps[i]? = some (k, v) → H T = none → Pv i σ H → g (.ref T) σ (upd H T (.tup [k, v])) fun σ2 H2 => tb { D with nx := Pv (i + 1), ct := Pv (i + 1), bk := D.nx } σ2 H2) (hd : ∀ σ H, Pv ps.length σ H → D.nx σ H) :
    ∃ W : Nat → Nat → St → Hp → Prop, (∃ m, W 0 m σ H) ∧ ∀ i m σ H, W i m σ H →
      ((ItS a o ps).stop i H ∧ D.nx σ H) ∨ ((ItS a o ps).go i H ∧ ∃ N : St → Hp → Prop, (∀ σ' H', N σ' H' → ∃ m', m' < m ∧ W (i + 1) m' σ' H') ∧ ∀ x H', (ItS a o ps).yld i H x H' → g x σ H' fun σ2 H2 => tb { D with nx := N, ct := N, bk := D.nx } σ2 H2) := by
  refine ⟨fun i m σ H => m = ps.length - i ∧ i ≤ ps.length ∧ Pv i σ H, ⟨ps.length, by simp, Nat.zero_le _, h0⟩, ?_⟩
  rintro i m σ H ⟨rfl, hi, p⟩
  have q1 := hl i σ H hi p
  by_cases hlt : i < ps.length
  · refine .inr ⟨⟨hlt, q1⟩, Pv (i + 1), fun σ' H' z => ⟨_, by omega, rfl, hlt, z⟩, ?_⟩
    rintro x H' ⟨T, k, v, rfl, hT, hx, rfl⟩
    exact hs i k v T σ H hx hT p
  · have e : i = ps.length := by omega
    subst e
    exact .inl ⟨⟨Nat.le_refl _, q1⟩, hd σ H p⟩
/-! ### looking a text up -/
theorem OddV.u {P : Program} {w : World} {H : Hp} {h : Heap} {v : V} {u : Value} (ok : HOk P w H h) (z : OddV H v) (r : RelV v u) : OddU h u := by
  rcases z with rfl | rfl | ⟨i, rfl⟩ | ⟨T, x, rfl, e⟩
  · exact .inl r
  · exact .inr (.inl r)
  · exact .inr (.inr (.inl (let ⟨t, e⟩ := r; ⟨i, t, e⟩)))
  · obtain ⟨_, its, rv, it⟩ := (show ObjOk P w H h T (.tup [.str x]) from ok T _ e)
    obtain ⟨y, rfl, ry⟩ := vals1 rv
    obtain ⟨t, rfl⟩ := (show ∃ t, y = Value.str x t from ry)
    exact .inr (.inr (.inr ⟨T, x, t, r, it⟩))
/-- an odd last key, if there is one -/
noncomputable def OddL (H : Hp) (last : Option (V × V)) : Prop := ∀ p, last = some p → OddV H p.1
section
variable {X : Cx} {pins : List (Addr × Obj)} {σ : St} {H : Hp} {s : Shared} {a : Addr} {kvs : List (Key × V)} {last : Option (V × V)} {y : Str} {u : Value} {A : Around} {E : Value → Shared → Prop}
theorem x_get (hu : A.units + 3 < cLine) (I : Inv X pins σ H s) (d : DAt X.prog X.w H a kvs last) (ol : OddL H last) (ry : RelV (.str y) u) {v : V} (hv : valV kvs (.inr y) = some v) {Q : Value → Shared → Prop} (h : ∀ w' s', Inv X pins σ H s' → RelV v w' → Q w' s') :
    wpAny (model X.prog X.w) A (getItem (.ref a) u) Q E s := by
  have plain : ∀ (h0 : Heap) (o : Obj) , s.heap.get? a = some o → FixD X.prog X.w o kvs last → wpAny (model X.prog X.w) A (getItem (.ref a) u) Q E s := fun _ o ho f => by
    obtain ⟨hx, es0, es, ep, vs, hd, hk, hp, hn, hkv, hl⟩ := f
    obtain ⟨w', hw, rw'⟩ := RelO.some_of (v := v) (o := valueAt vs (.inr y)) (by rw [← hv]; exact KV.val hkv (.inr y))
    obtain ⟨t, rfl⟩ := (show ∃ t, u = Value.str y t from ry)
    cases last with
    | none =>
      obtain rfl : es = es0 := hl
      have dd : s.heap.DictOf (mixKind X.prog X.w) a vs := ⟨o, es, ep, ho, hx, hd, hk, hp, hn⟩
      exact wpAny_getItem_of (kV_is (k := .inr y) ⟨t, rfl⟩) dd.mapOf hw (h w' _ (I.tok _) rw')
    | some p =>
      obtain ⟨h1, ku, vu, rfl, ru, rv⟩ := hl
      exact getItem_odd hu ho hx hd hk hp hn ((ol p rfl).u I.hok ru) hw fun tk => h w' _ (I.tok _) rw'
  rcases d with ⟨e, rfl⟩ | ⟨o, e, f⟩
  · obtain ⟨o, ho, _, f⟩ := fix_of I.hok e
    exact plain s.heap o ho f
  · exact plain s.heap o (fix_ok I.hok e).1 f
theorem x_in (hu : A.units + 3 < cLine) (I : Inv X pins σ H s) (d : DAt X.prog X.w H a kvs last) (ol : OddL H last) (ry : RelV (.str y) u) {Q : Value → Shared → Prop} (h : ∀ s', Inv X pins σ H s' → Q (.bool (valV kvs (.inr y)).isSome) s') :
    wpAny (model X.prog X.w) A (compareOp .In u (.ref a)) Q E s := by
  have plain : ∀ (h0 : Heap) (o : Obj) , s.heap.get? a = some o → (a == sysModules) = false → FixD X.prog X.w o kvs last → wpAny (model X.prog X.w) A (compareOp .In u (.ref a)) Q E s := fun _ o ho lo f => by
    obtain ⟨hx, es0, es, ep, vs, hd, hk, hp, hn, hkv, hl⟩ := f
    have ev : (valV kvs (.inr y)).isSome = (valueAt vs (.inr y)).isSome := (KV.val hkv (.inr y)).isSome_eq
    obtain ⟨t, rfl⟩ := (show ∃ t, u = Value.str y t from ry)
    cases last with
    | none =>
      obtain rfl : es = es0 := hl
      have dd : s.heap.DictOf (mixKind X.prog X.w) a vs := ⟨o, es, ep, ho, hx, hd, hk, hp, hn⟩
      refine wpAny_in_of (kV_is (k := .inr y) ⟨t, rfl⟩) lo dd.mapOf ?_
      rw [← ev]; exact h _ (I.tok _)
    | some p =>
      obtain ⟨h1, ku, vu, rfl, ru, rv⟩ := hl
      refine in_odd hu ho hx hd lo hk hp hn ((ol p rfl).u I.hok ru) fun tk => ?_
      rw [← ev]; exact h _ (I.tok _)
  rcases d with ⟨e, rfl⟩ | ⟨o, e, f⟩
  · obtain ⟨o, ho, lo, f⟩ := fix_of I.hok e
    exact plain s.heap o ho lo f
  · exact plain s.heap o (fix_ok I.hok e).1 (fix_ok I.hok e).2 f
end
noncomputable def tXGet (P : Program) (w : World) (td ty : TE) : TE := fun σ H Q => td σ H fun x H1 => ty σ H1 fun y H2 => ∃ a kvs last s v, x = .ref a ∧ y = .str s ∧ DAt P w H2 a kvs last ∧ OddL H2 last ∧ valV kvs (.inr s) = some v ∧ Q v H2
noncomputable def tXIn (P : Program) (w : World) (ty td : TE) : TE := fun σ H Q => ty σ H fun y H1 => td σ H1 fun x H2 => ∃ a kvs last s, x = .ref a ∧ y = .str s ∧ DAt P w H2 a kvs last ∧ OddL H2 last ∧ Q (.bl (valV kvs (.inr s)).isSome) H2
theorem fix_ty {X : Cx} {pins : List (Addr × Obj)} {σ : St} {H : Hp} {s : Shared} {a : Addr} {kvs : List (Key × V)} {last : Option (V × V)} (I : Inv X pins σ H s) (d : DAt X.prog X.w H a kvs last) : s.TypeIs (.ref a) "dict" := by
  obtain ⟨o, ho, _, f, _⟩ := I.fix d
  exact ⟨o, ho, f.1.1⟩
section
variable {X : Cx} {o i : Expr} {pos : Pos} {td ty : TE}
theorem qe_xget {P : Program} {w : World} (eP : X.prog = P) (ew : X.w = w) (hu : X.A.units + 64 < cLine) (ho : QE X o td) (hi : QE X i ty) (hs : NoSl i := by intro _ _; rfl) : QE X (.Subscript o i pos) (tXGet P w td ty) := ⟨by
  subst eP ew
  intro pins s σ H Q I h
  refine subD_of PySem.F.slot_dict_getitem.lookup hs (thn (ho.h pins s σ H _ I h) fun u s1 ⟨x, H1, I1, rx, q1⟩ => thn (hi.h pins s1 σ H1 _ I1 q1) fun iv s2 ⟨y, H2, I2, ry, a, kvs, last, t, v, ex, ey, d, ol, hv, q2⟩ => ?_)
  subst ex ey
  obtain rfl : u = Value.ref a := rx
  exact ⟨fix_ty I2 d, x_get (by omega) I2 d ol ry hv fun w' s3 I3 rw' => ⟨v, H2, I3, rw', q2⟩⟩⟩
theorem pc_xin (hu : X.A.units + 64 < cLine) (hi : PE X i ty) (ho : PE X o td) : PC X .In i o (tXIn X.prog X.w ty td) := by
  intro pins s σ H Q I h
  refine thn (hi pins s σ H _ I h) fun iv s1 ⟨y, H1, I1, ry, q1⟩ => thn (ho pins s1 σ H1 _ I1 q1) fun u s2 ⟨x, H2, I2, rx, a, kvs, last, t, ex, ey, d, ol, q2⟩ => ?_
  subst ex ey
  obtain rfl : u = Value.ref a := rx
  exact x_in (by omega) I2 d ol ry fun s3 I3 => ⟨.bl _, H2, I3, rfl, q2⟩
theorem qt_xin {P : Program} {w : World} (eP : X.prog = P) (ew : X.w = w) (hu : X.A.units + 64 < cLine) (hi : QE X i ty) (ho : QE X o td) (h1 : behindInMarks .In o = false := by rfl) : QT X (.Compare i [.In] [o] pos) (tB (tXIn P w ty td)) := eP ▸ ew ▸ ⟨pt_cmp (pc_xin hu hi.h ho.h) h1⟩
end
/-! ### d[odd key] = v -/
noncomputable def TextK (kvs : List (Key × V)) : Prop := ∀ p ∈ kvs, ∃ x, p.1 = Sum.inr x
noncomputable def sXPut (P : Program) (w : World) (td ty tv : TE) : TS := fun D σ H => tv σ H fun v H1 => td σ H1 fun x H2 => ty σ H2 fun y H3 => ∃ a, x = .ref a ∧ ((∃ H4, DPut H3 a y v H4 ∧ D.nx σ H4) ∨
  ∃ kvs, H3 a = some (.dK kvs) ∧ TextK kvs ∧ OddV H3 y ∧ ∀ o, FixD P w o kvs (some (y, v)) → D.nx σ (upd H3 a (fixO a o)))
theorem qs_xput {P : Program} {w : World} {X : Cx} (eP : X.prog = P) (ew : X.w = w) {o i v : Expr} {td ty tv : TE} {pos pos' : Pos} (hu : X.A.units + 64 < cLine) (ho : QE X o td) (hi : QE X i ty) (hv : QE X v tv) (hs : swapsWith v (some (.Subscript o i pos')) pos.line X.env = pure false := by rfl) :
    QS X (.Assign [.Subscript o i pos'] v pos) (sXPut P w td ty tv) := ⟨by
  subst eP ew
  intro pins s σ H D I h
  refine wpAny_Assign_Subscript (thn (hv.h pins s σ H _ I h) fun r s1 ⟨v, H1, I1, rv, q1⟩ => thn (ho.h pins s1 σ H1 _ I1 q1) fun u s2 ⟨x, H2, I2, rx, q2⟩ => thn (hi.h pins s2 σ H2 _ I2 q2) fun iv s3 ⟨y, H3, I3, ry, a, ex, q3⟩ => ?_) hs
  subst ex
  obtain rfl : u = Value.ref a := rx
  rcases q3 with ⟨H4, g, q3⟩ | ⟨kvs, e, tk, ov, q3⟩
  · exact d_setItem (by omega) I3 g ry rv fun s4 I4 => ⟨σ, H4, I4, q3⟩
  · obtain ⟨hz, lo, vs, hkv, ob, es, ep, hob, hx, hdat, hk, hp, hn⟩ := (show ObjOk X.prog X.w H3 s3.heap a (.dK kvs) from I3.hok a _ e)
    have hstr : ∀ en ∈ es, ∃ x t, en.key = .str x t := fun en m => by
      obtain ⟨j, hj, rfl⟩ := Array.mem_iff_getElem.mp m
      have l0 : kvs.length = es.size := by rw [(kv_at hkv).1, ← hp.length]; simp
      obtain ⟨x, hx'⟩ := tk kvs[j] (List.getElem_mem (by omega))
      obtain ⟨y', hy', _⟩ := kv_got hkv j kvs[j].1 kvs[j].2 (List.getElem?_eq_getElem (by omega))
      obtain ⟨k1, _⟩ := hp.get? (e := es[j]) (by simp [hj]) hy'
      rw [hx'] at k1
      rcases keyIs_shape (show keyIs (Sum.inr x) es[j].key = true from k1) with ⟨_, _, q, _⟩ | ⟨z, t, _, q⟩
      · cases q
      · exact ⟨z, t, q⟩
    have hsz : es.size ≤ sizeLine := by
      have l0 : kvs.length = es.size := by rw [(kv_at hkv).1, ← hp.length]; simp
      omega
    refine setItem_odd (by omega) hob hx hdat hstr hsz (ov.u I3.hok ry) fun hk' h' tk hg hsb => ?_
    have f : FixD X.prog X.w (ob.mapDictKeys (·.push ⟨hk', iv, r⟩)) kvs (some (y, v)) := ⟨hx.mapDictKeys _, es, _, _, vs, Obj.data_mapDictKeys hdat _, hk, hp, hn, hkv, hk', iv, r, rfl, ry, rv⟩
    exact ⟨σ, _, d_write I3 (by rw [e]; exact trivial) hsb ⟨_, hg⟩ (fix_new hg lo), q3 _ f⟩⟩
/-! ### isinstance -/
section
variable {X : Cx}
theorem qc_isiX {P : Program} {w : World} {K : PySem.W.Frag} (eK : X.K = K) (eP : X.prog = P) (ew : X.w = w) : QCall X (.builtin "isinstance") (fun xs H Q => (∃ x T t b, xs = [x, .ty T] ∧ TyOf K H x t ∧ PySem.W.kitOne K t (.type T) = some b ∧ Q (.bl b) H) ∨
    ∃ a kvs last, xs = [.ref a, .ty "dict"] ∧ DAt P w H a kvs last ∧ Q (.bl true) H) := ⟨by
  subst eK eP ew
  intro pins s σ H xs us Q I r h
  rcases h with h | ⟨a, kvs, last, rfl, d, q⟩
  · exact call_isi pins s σ H xs us Q I r h
  · obtain ⟨u, v, rfl, r1, r2⟩ := Vals.two r
    cases (show v = Value.type "dict" from r2)
    cases (show u = Value.ref a from r1)
    obtain ⟨o, ho, _, f, _⟩ := I.fix d
    exact PySem.W.kia_one PySem.W.kitx_dict I.kIn ⟨o, ho, f.1.1⟩ (RB.kit_same _) (fun z => nomatch z) fun tk => ⟨.bl true, H, I.tok tk, rfl, q⟩⟩
end
end L2

set_option maxRecDepth 100000
namespace RB
open PySem L2 PySem.Spec PyProof.Rows
/-! ### things apart from all that stands in S -/
noncomputable def Occ (S : List Addr) (H : Hp) : Prop := ∀ b ∈ S, ∃ o, H b = some o
theorem Occ.fresh {S : List Addr} {H : Hp} (o : Occ S H) {p : Addr} (h : H p = none) : p ∉ S := fun z => by
  obtain ⟨u, e⟩ := o p z
  rw [h] at e; cases e
theorem Occ.same {S : List Addr} {H H' : Hp} (o : Occ S H) (s : Same H H') : Occ S H' := fun b z => let ⟨u, e⟩ := o b z; ⟨u, s _ _ e⟩
theorem Occ.but {S : List Addr} {H H' : Hp} {d c : Addr} (o : Occ S H) (b : But [d, c] H H') (D : DeckAt H' d c) : Occ S H' := fun x z => by
  obtain ⟨u, e⟩ := o x z
  by_cases q : x ∈ [d, c]
  · cases e' : H' x with
    | some u => exact ⟨u, rfl⟩
    | none => exact absurd q (D.fresh e')
  · exact ⟨u, b _ _ q e⟩
noncomputable def spWrongS : Sp := fun vs H Q _ => ∃ a r d c S, vs = [.ref a, .ref d] ∧ IsR H a r ∧ r.Good ∧ DeckAt H d c ∧ Occ S H ∧ (∀ b ∈ [d, c], b ∈ S) ∧ ∀ v H', But [d, c] H H' → DeckAt H' d c → Ok S H' v → Q v H'
noncomputable def spSpoiltS (m : Nat) : Sp := fun vs H Q _ => ∃ a r d c S, vs = [.ref a, .ref d] ∧ IsR H a r ∧ r.Good ∧ r.depth ≤ m ∧ DeckAt H d c ∧ Occ S H ∧ (∀ b ∈ [d, c], b ∈ S) ∧ ∀ v H', But [d, c] H H' → DeckAt H' d c → Ok S H' v → Q v H'
/-! ### a house, as a thing -/
noncomputable def hasK (x : Th) (ts : List (Th × Th)) : Bool := ts.any fun p => match p.1, x with | .str y, .str z => decide (y = z) | _, _ => false
noncomputable def houseT (tg tr : List (Th × Th)) : Bool := (tg.all fun p => nameT p.1 && wholeT p.2) && tr.all fun p => nameT p.1 && !hasK p.1 tg && decide (szN 8 p.2 ≤ 100)
noncomputable abbrev EntsT (S : List Addr) (H : Hp) : List (V × V) → List (Th × Th) → Prop := Paired fun p t => (Tg S H p.1 t.1 ∧ AscT t.1) ∧ Tg S H p.2 t.2 ∧ AscT t.2
theorem EntsT.but {S : List Addr} {H H' : Hp} (b : But S H H') (t : Tups H H') {ps : List (V × V)} {ts : List (Th × Th)} (e : EntsT S H ps ts) : EntsT S H' ps ts :=
  Paired.imp' (fun p q z => ⟨⟨z.1.1.but b t, z.1.2⟩, z.2.1.but b t, z.2.2⟩) e
/-- no pair of two dicts -/
noncomputable def notPair (t : Th) : Prop := ∀ x y, t = .tup [x, y] → tyTh x ≠ "dict" ∨ tyTh y ≠ "dict"
structure HB (P : Program) (w : World) (H : Hp) (h g c : Addr) (kg : List (Key × V)) (lg : Option (V × V)) (kr : List (Key × V)) (lr : Option (V × V)) (tg tr : List (Th × Th)) : Prop where
  eh : H h = some (.tup [.ref g, .ref c])
  gc : g ≠ c
  dg : DAt P w H g kg lg
  dc : DAt P w H c kr lr
  og : OddL H lg
  oc : OddL H lr
  xg : TextK kg
  xc : TextK kr
  eg : EntsT [g, c] H (ents kg lg) tg
  ec : EntsT [g, c] H (ents kr lr) tr
theorem dAt_notTup {P : Program} {w : World} {H : Hp} {a : Addr} {kvs : List (Key × V)} {l : Option (V × V)} (d : DAt P w H a kvs l) {xs : List V} (e : H a = some (.tup xs)) : False := by
  rcases d with ⟨z, _⟩ | ⟨o, z, _⟩ <;> (rw [e] at z; cases z)
theorem oddL_tups {H H' : Hp} (t : Tups H H') {l : Option (V × V)} (o : OddL H l) : OddL H' l := fun p e => by
  rcases o p e with z | z | z | ⟨T, x, z, y⟩
  · exact .inl z
  · exact .inr (.inl z)
  · exact .inr (.inr (.inl z))
  · exact .inr (.inr (.inr ⟨T, x, z, t _ _ y⟩))
section
variable {P : Program} {w : World} {H H' : Hp} {h g c : Addr} {kg kr : List (Key × V)} {lg lr : Option (V × V)} {tg tr : List (Th × Th)}
theorem HB.tups (z : HB P w H h g c kg lg kr lr tg tr) (b : But [g, c] H H') : Tups H H' := fun x xs e => b x _ (fun q => by
  rcases List.mem_cons.mp q with y | y
  · subst y; exact dAt_notTup z.dg e
  · rw [List.mem_singleton.mp y] at e; exact dAt_notTup z.dc e) e
theorem HB.but (z : HB P w H h g c kg lg kr lr tg tr) (b : But [g, c] H H') (dg : DAt P w H' g kg lg) (dc : DAt P w H' c kr lr) : HB P w H' h g c kg lg kr lr tg tr :=
  have t := z.tups b
  ⟨t _ _ z.eh, z.gc, dg, dc, oddL_tups t z.og, oddL_tups t z.oc, z.xg, z.xc, z.eg.but b t, z.ec.but b t⟩
theorem HB.same (z : HB P w H h g c kg lg kr lr tg tr) (s : Same H H') : HB P w H' h g c kg lg kr lr tg tr :=
  z.but (But.of_same s) (z.dg.elim (fun y => .inl ⟨s _ _ y.1, y.2⟩) fun ⟨o, y, f⟩ => .inr ⟨o, s _ _ y, f⟩) (z.dc.elim (fun y => .inl ⟨s _ _ y.1, y.2⟩) fun ⟨o, y, f⟩ => .inr ⟨o, s _ _ y, f⟩)
end
noncomputable def HTh (P : Program) (w : World) (K : PySem.W.Frag) (S : List Addr) (H : Hp) (v : V) (b : Bool) : Prop :=
  (∃ t, S = [] ∧ IsTh K H v t ∧ AscT t ∧ notPair t ∧ b = false) ∨
  ∃ h g c kg lg kr lr tg tr, S = [g, c] ∧ v = .ref h ∧ b = houseT tg tr ∧ HB P w H h g c kg lg kr lr tg tr
/-- fixing the one, fixing the other -/
theorem HB.fixG {P : Program} {w : World} {H : Hp} {h g c : Addr} {kg kr : List (Key × V)} {lg lr : Option (V × V)} {tg tr : List (Th × Th)} (z : HB P w H h g c kg lg kr lr tg tr) {o : Obj} (f : FixD P w o kg lg) : HB P w (upd H g (fixO g o)) h g c kg lg kr lr tg tr :=
  z.but (But.set _ (by simp)) (.inr ⟨o, upd_same, f⟩) (by
    have e : upd H g (fixO g o) c = H c := upd_ne fun y => z.gc y.symm
    unfold DAt; rw [e]; exact z.dc)
theorem HB.fixC {P : Program} {w : World} {H : Hp} {h g c : Addr} {kg kr : List (Key × V)} {lg lr : Option (V × V)} {tg tr : List (Th × Th)} (z : HB P w H h g c kg lg kr lr tg tr) {o : Obj} (f : FixD P w o kr lr) : HB P w (upd H c (fixO c o)) h g c kg lg kr lr tg tr :=
  z.but (But.set _ (by simp)) (by
    have e : upd H c (fixO c o) g = H g := upd_ne z.gc
    unfold DAt; rw [e]; exact z.dg) (.inr ⟨o, upd_same, f⟩)
theorem paired_at {α β : Type} {F : α → β → Prop} : ∀ {l₁ : List α} {l₂ : List β} {i : Nat} {x : α}, Paired F l₁ l₂ → l₁[i]? = some x → ∃ y, l₂[i]? = some y ∧ F x y
  | _, _, _, _, .nil, e => by simp at e
  | _, _, 0, _, .cons r _, e => by simp at e; subst e; exact ⟨_, rfl, r⟩
  | _, _, i + 1, x, .cons _ t, e => by
    obtain ⟨y, h1, h2⟩ := paired_at (i := i) (x := x) t (by simpa using e)
    exact ⟨y, by simpa using h1, h2⟩
theorem all_false {α : Type} {f : α → Bool} {l : List α} {i : Nat} {x : α} (e : l[i]? = some x) (h : f x = false) : l.all f = false := by
  rw [Bool.eq_false_iff]
  intro z
  rw [List.all_eq_true.mp z x (List.mem_of_getElem? e)] at h
  exact Bool.noConfusion h
theorem all_take {α : Type} {f : α → Bool} {l : List α} {i : Nat} {x : α} (e : l[i]? = some x) (h : (l.take i).all f = true) (hx : f x = true) : (l.take (i + 1)).all f = true := by
  rw [List.take_succ, e, List.all_append, h]
  simp [hx]
theorem valAny : ∀ (kg : List (Key × V)) (k : Key), (valV kg k).isSome = kg.any fun q => decide (q.1 = k)
  | [], k => rfl
  | p :: kg, k => by
    have ih := valAny kg k
    unfold valV at ih ⊢
    rw [List.find?_cons, List.any_cons]
    cases h : decide (p.1 = k) with
    | true => rfl
    | false => rw [Bool.false_or]; exact ih
theorem tg_str {S : List Addr} {H : Hp} {x : Str} {t : Th} (h : Tg S H (.str x) t) : t = .str x := by cases h; rfl
theorem tg_odd {S : List Addr} {H : Hp} {v : V} {t : Th} (o : OddV H v) (h : Tg S H v t) : ∀ x, t ≠ .str x := by
  rcases o with rfl | rfl | ⟨i, rfl⟩ | ⟨T, y, rfl, e⟩ <;> (cases h <;> (intro x z; cases z))
/-- looking a text up among the entries -/
theorem has_val {S : List Addr} {H : Hp} {l : Option (V × V)} (o : OddL H l) (y : Str) : ∀ {kvs : List (Key × V)} {ts : List (Th × Th)}, TextK kvs → EntsT S H (ents kvs l) ts → hasK (.str y) ts = (valV kvs (.inr y)).isSome
  | [], ts, _, e => by
    cases l with
    | none => cases e; rfl
    | some p =>
      obtain ⟨t, rfl, ht⟩ : ∃ t, ts = [t] ∧ ((Tg S H p.1 t.1 ∧ AscT t.1) ∧ Tg S H p.2 t.2 ∧ AscT t.2) := by
        cases e with
        | cons h r => cases r; exact ⟨_, rfl, h⟩
      have := tg_odd (o p rfl) ht.1.1
      show hasK (.str y) [t] = false
      unfold hasK
      rw [List.any_cons, List.any_nil, Bool.or_false]
      split
      · rename_i y' z h1 h2
        exact absurd h1 (this y')
      · rfl
  | (k, v) :: kvs, ts, x, e => by
    obtain ⟨z, hz⟩ := x (k, v) (by simp)
    have hz : k = Sum.inr z := hz
    subst hz
    cases e with
    | @cons _ t _ ts' h r =>
      have ih := has_val o y (kvs := kvs) (ts := ts') (fun p hp => x p (List.mem_cons_of_mem _ hp)) r
      have e1 : t.1 = .str z := tg_str h.1.1
      rw [valAny] at ih ⊢
      unfold hasK at ih ⊢
      rw [List.any_cons, List.any_cons, ih, e1]
      congr 1
      show decide (z = y) = decide ((Sum.inr z : Key) = Sum.inr y)
      by_cases q : z = y
      · subst q; simp
      · rw [decide_eq_false q, decide_eq_false fun w => q (Sum.inr.inj w)]
theorem valV_at : ∀ {kvs : List (Key × V)} {i : Nat} {k : Key} {v : V}, (kvs.map (·.1)).Nodup → kvs[i]? = some (k, v) → valV kvs k = some v
  | [], i, k, v, _, h => by simp at h
  | p :: kvs, i, k, v, hn, h => by
    rw [List.map_cons, List.nodup_cons] at hn
    unfold valV
    rw [List.find?_cons]
    cases i with
    | zero =>
      have : p = (k, v) := by simpa using h
      subst this
      simp
    | succ i =>
      have h' : kvs[i]? = some (k, v) := by simpa using h
      have hk : k ∈ kvs.map (·.1) := List.mem_map.mpr ⟨(k, v), List.mem_of_getElem? h', rfl⟩
      have hne : ¬ p.1 = k := fun z => hn.1 (z ▸ hk)
      rw [decide_eq_false hne]
      exact valV_at hn.2 h'
theorem ent_val {H : Hp} {l : Option (V × V)} {kvs : List (Key × V)} {i : Nat} {x : Str} {v : V} (o : OddL H l) (t : TextK kvs) (n : (kvs.map (·.1)).Nodup) (e : (ents kvs l)[i]? = some (.str x, v)) : valV kvs (.inr x) = some v := by
  unfold ents at e
  by_cases hi : i < kvs.length
  · rw [List.getElem?_append_left (by simpa using hi), List.getElem?_map] at e
    have e1 : kvs[i]? = some kvs[i] := List.getElem?_eq_getElem hi
    rw [e1] at e
    obtain ⟨y, hy⟩ := t kvs[i] (List.getElem_mem hi)
    have e2 : (kV kvs[i].1, kvs[i].2) = (V.str x, v) := Option.some.inj e
    rw [hy] at e2
    have e3 : V.str y = V.str x := (Prod.mk.inj e2).1
    have e4 : kvs[i].2 = v := (Prod.mk.inj e2).2
    refine valV_at n (i := i) (k := .inr x) ?_
    rw [e1]
    have : kvs[i] = (kvs[i].1, kvs[i].2) := rfl
    rw [this, hy, e4, V.str.inj e3]
  · rw [List.getElem?_append_right (by simpa using hi)] at e
    cases l with
    | none => simp at e
    | some p =>
      have hz : p = (V.str x, v) := by
        have hm : (V.str x, v) ∈ [p] := List.mem_of_getElem? e
        exact (List.mem_singleton.mp hm).symm
      rcases o p rfl with z | z | ⟨i, z⟩ | ⟨T, y, z, _⟩ <;> (rw [hz] at z; cases z)
theorem kv_keys {κ : Type} : ∀ {kvs : List (κ × V)} {vs : List (κ × Value)}, KV kvs vs → kvs.map (·.1) = vs.map (·.1)
  | _, _, .nil => rfl
  | _, _, .cons h t => by rw [List.map_cons, List.map_cons, kv_keys t, h.1]
theorem fix_nodup {P : Program} {w : World} {o : Obj} {kvs : List (Key × V)} {l : Option (V × V)} (f : FixD P w o kvs l) : (kvs.map (·.1)).Nodup := by
  obtain ⟨_, _, _, _, vs, _, _, _, hn, hkv, _⟩ := f
  rw [kv_keys hkv]; exact hn
noncomputable def houseL (tg tr : List (Th × Th)) : Bool := (tg.all fun p => nameT p.1 && wholeT p.2 && !hasK p.1 tr) && tr.all fun p => nameT p.1 && decide (szN 8 p.2 ≤ 100)
theorem hasK_sym {a b : List (Th × Th)} (h : ∀ p ∈ a, hasK p.1 b = false) : ∀ q ∈ b, hasK q.1 a = false := fun q hq => by
  rw [Bool.eq_false_iff]
  intro z
  obtain ⟨p, hp, hz⟩ := List.any_eq_true.mp z
  have := h p hp
  rw [Bool.eq_false_iff] at this
  refine this (List.any_eq_true.mpr ⟨q, hq, ?_⟩)
  cases h1 : p.1 with
  | str x =>
    cases h2 : q.1 with
    | str y =>
      rw [h1, h2] at hz
      have e : x = y := of_decide_eq_true hz
      exact decide_eq_true e.symm
    | _ => rw [h1, h2] at hz; exact absurd hz (by simp)
  | _ => rw [h1] at hz; exact absurd hz (by simp)
theorem house_eq (tg tr : List (Th × Th)) : houseL tg tr = houseT tg tr := by
  rw [Bool.eq_iff_iff]
  unfold houseL houseT
  simp only [Bool.and_eq_true, List.all_eq_true, Bool.not_eq_true', decide_eq_true_eq]
  constructor
  · rintro ⟨h1, h2⟩
    exact ⟨fun p hp => ⟨(h1 p hp).1.1, (h1 p hp).1.2⟩, fun p hp => ⟨⟨(h2 p hp).1, hasK_sym (fun q hq => (h1 q hq).2) p hp⟩, (h2 p hp).2⟩⟩
  · rintro ⟨h1, h2⟩
    exact ⟨fun p hp => ⟨⟨(h1 p hp).1, (h1 p hp).2⟩, hasK_sym (fun q hq => (h2 q hq).1.2) p hp⟩, fun p hp => ⟨(h2 p hp).1.1, (h2 p hp).2⟩⟩
/-! ### the law's own houses -/
structure HG (H : Hp) (g r : Addr) (kg kr : List (Key × V)) : Prop where
  eg : H g = some (.dK kg)
  er : H r = some (.dK kr)
  ne : g ≠ r
  gn : GoodN kg
  gh : GoodH H kr
  dj : ∀ p ∈ kr, valV kg p.1 = none
  lg : kg.length ≤ 6
  lr : kr.length ≤ 6
theorem mem_putK {kvs : List (Key × V)} {k : Key} {v : V} {p : Key × V} (h : p ∈ putK kvs k v) : p = (k, v) ∨ p ∈ kvs := by
  unfold putK at h
  split at h
  · obtain ⟨q, hq, e⟩ := List.mem_map.mp h
    split at e
    · rename_i z
      left
      rw [← e, ← z]
    · right; rw [← e]; exact hq
  · rcases List.mem_append.mp h with z | z
    · exact .inr z
    · exact .inl (by simpa using z)
theorem goodH_tups {H H' : Hp} (t : Tups H H') {kr : List (Key × V)} (h : GoodH H kr) : GoodH H' kr := fun p hp => by
  obtain ⟨x, a, r, e, g, R, rest⟩ := h p hp
  exact ⟨x, a, r, e, g, R.tups t, rest⟩
theorem but_drop {d c l : Addr} {H H' : Hp} {o : HO} (hl : H l = none) (b : But [d, c, l] (upd H l o) H') : But [d, c] H H' := fun x u nx e => by
  have hx : x ≠ l := ne_of_none e hl
  refine b x u (fun z => ?_) ((upd_ne hx).trans e)
  rcases List.mem_cons.mp z with y | y
  · exact nx (by simp [y])
  · rcases List.mem_cons.mp y with y | y
    · exact nx (by simp [y])
    · exact hx (List.mem_singleton.mp y)
noncomputable def spMkHouse : Sp := fun vs H Q _ => ∃ d c, vs = [.ref d] ∧ DeckAt H d c ∧ ∀ h g r kg kr H', But [d, c] H H' → DeckAt H' d c → H' h = some (.tup [.ref g, .ref r]) → HG H' g r kg kr → Q (.ref h) H'
/-! ### entries that are things -/
noncomputable def OkE (S : List Addr) (H : Hp) (kvs : List (Key × V)) (l : Option (V × V)) : Prop := ∀ p ∈ ents kvs l, Ok S H p.1 ∧ Ok S H p.2
theorem OkE.but {S : List Addr} {H H' : Hp} (b : But S H H') (t : Tups H H') {kvs : List (Key × V)} {l : Option (V × V)} (h : OkE S H kvs l) : OkE S H' kvs l := fun p hp => ⟨(h p hp).1.but b t, (h p hp).2.but b t⟩
theorem OkE.ts {S : List Addr} {H : Hp} : ∀ {ps : List (V × V)}, (∀ p ∈ ps, Ok S H p.1 ∧ Ok S H p.2) → ∃ ts, EntsT S H ps ts
  | [], _ => ⟨[], .nil⟩
  | p :: ps, h => by
    obtain ⟨ts, r⟩ := OkE.ts (ps := ps) fun q hq => h q (List.mem_cons_of_mem _ hq)
    obtain ⟨⟨t, a1, a2⟩, u, b1, b2⟩ := h p (by simp)
    exact ⟨(t, u) :: ts, .cons ⟨⟨a1, a2⟩, b1, b2⟩ r⟩
theorem okE_N {S : List Addr} {H : Hp} {kg : List (Key × V)} (h : GoodN kg) : OkE S H kg none := fun p hp => by
  unfold ents at hp
  rw [Option.toList_none, List.append_nil] at hp
  obtain ⟨q, hq, rfl⟩ := List.mem_map.mp hp
  obtain ⟨x, n, rfl, gx⟩ := h q hq
  exact ⟨⟨_, .str x, .name gx⟩, Ok.int n⟩
theorem okE_H {S : List Addr} {H : Hp} {kr : List (Key × V)} (h : GoodH H kr) : OkE S H kr none := fun p hp => by
  unfold ents at hp
  rw [Option.toList_none, List.append_nil] at hp
  obtain ⟨q, hq, rfl⟩ := List.mem_map.mp hp
  obtain ⟨x, a, r, rfl, gx, R, gr, _⟩ := h q hq
  exact ⟨⟨_, .str x, .name gx⟩, R.ok gr⟩
theorem textN {kg : List (Key × V)} (h : GoodN kg) : TextK kg := fun p hp => by obtain ⟨x, n, rfl, _⟩ := h p hp; exact ⟨x, rfl⟩
theorem textH {H : Hp} {kr : List (Key × V)} (h : GoodH H kr) : TextK kr := fun p hp => by obtain ⟨x, a, r, rfl, _⟩ := h p hp; exact ⟨x, rfl⟩
theorem text_put {kvs : List (Key × V)} (h : TextK kvs) (x : Str) (v : V) : TextK (putK kvs (.inr x) v) := fun p hp => by
  rcases mem_putK hp with rfl | z
  · exact ⟨x, rfl⟩
  · exact h p z
theorem okE_put {S : List Addr} {H : Hp} {kvs : List (Key × V)} (h : OkE S H kvs none) {x : Str} {v : V} (hx : Ok S H (.str x)) (hv : Ok S H v) : OkE S H (putK kvs (.inr x) v) none := fun p hp => by
  unfold ents at hp
  rw [Option.toList_none, List.append_nil] at hp
  obtain ⟨q, hq, rfl⟩ := List.mem_map.mp hp
  rcases mem_putK hq with rfl | z
  · exact ⟨hx, hv⟩
  · exact h _ (by unfold ents; rw [Option.toList_none, List.append_nil]; exact List.mem_map.mpr ⟨q, z, rfl⟩)
theorem okE_odd {S : List Addr} {H : Hp} {kvs : List (Key × V)} (h : OkE S H kvs none) {k v : V} (hx : Ok S H k) (hv : Ok S H v) : OkE S H kvs (some (k, v)) := fun p hp => by
  unfold ents at hp
  rcases List.mem_append.mp hp with z | z
  · exact h p (by unfold ents; rw [Option.toList_none, List.append_nil]; exact z)
  · have : p = (k, v) := by simpa using z
    subst this; exact ⟨hx, hv⟩
theorem oddL_none {H : Hp} : OddL H none := fun p e => by cases e
theorem oddL_some {H : Hp} {k v : V} (h : OddV H k) : OddL H (some (k, v)) := fun p e => by cases e; exact h
theorem hth_pair {P : Program} {w : World} {K : PySem.W.Frag} {H : Hp} {h g c : Addr} {kg kr : List (Key × V)} {lg lr : Option (V × V)} (eh : H h = some (.tup [.ref g, .ref c])) (gc : g ≠ c) (dg : DAt P w H g kg lg) (dc : DAt P w H c kr lr) (og : OddL H lg) (oc : OddL H lr) (xg : TextK kg) (xc : TextK kr)
    (eg : OkE [g, c] H kg lg) (ec : OkE [g, c] H kr lr) : ∃ b, HTh P w K [g, c] H (.ref h) b := by
  obtain ⟨tg, a⟩ := OkE.ts eg
  obtain ⟨tr, b⟩ := OkE.ts ec
  exact ⟨houseT tg tr, .inr ⟨h, g, c, kg, lg, kr, lr, tg, tr, rfl, rfl, rfl, eh, gc, dg, dc, og, oc, xg, xc, a, b⟩⟩
mutual
theorem Tg.sub {S S' : List Addr} {H : Hp} (s : ∀ b ∈ S, b ∈ S') : ∀ {v : V} {t : Th}, Tg S' H v t → Tg S H v t
  | _, _, .non => .non
  | _, _, .bl b => .bl b
  | _, _, .int i => .int i
  | _, _, .str x => .str x
  | _, _, .tup e h => .tup e (Tgs.sub s h)
  | _, _, .lst e n => .lst e fun z => n (s _ z)
  | _, _, .dic e n => .dic e fun z => n (s _ z)
theorem Tgs.sub {S S' : List Addr} {H : Hp} (s : ∀ b ∈ S, b ∈ S') : ∀ {vs : List V} {ts : List Th}, Tgs S' H vs ts → Tgs S H vs ts
  | _, _, .nil => .nil
  | _, _, .cons h r => .cons (Tg.sub s h) (Tgs.sub s r)
end
theorem Ok.sub {S S' : List Addr} {H : Hp} (s : ∀ b ∈ S, b ∈ S') {v : V} (h : Ok S' H v) : Ok S H v := let ⟨t, a, b⟩ := h; ⟨t, a.sub s, b⟩
/-- the nine keys -/
theorem key_kinds {S : List Addr} {H : Hp} {T : Addr} (e : H T = some (.tup [.str "a"])) {v : V} (h : v ∈ [V.str "", V.str "A", V.int 5, V.str "abcdefghi", V.non, V.ref T, V.bl true, V.str "a b", V.str "x1"]) : Ok S H v ∧ ((∃ x : Str, v = .str x) ∨ OddV H v) := by
  simp only [List.mem_cons, List.not_mem_nil, or_false] at h
  rcases h with rfl | rfl | rfl | rfl | rfl | rfl | rfl | rfl | rfl
  · exact ⟨Ok.str (by decide +kernel), .inl ⟨_, rfl⟩⟩
  · exact ⟨Ok.str (by decide +kernel), .inl ⟨_, rfl⟩⟩
  · exact ⟨Ok.int 5, .inr (.inr (.inr (.inl ⟨5, rfl⟩)))⟩
  · exact ⟨Ok.str (by decide +kernel), .inl ⟨_, rfl⟩⟩
  · exact ⟨Ok.non, .inr (.inl rfl)⟩
  · exact ⟨Ok.tup e (Nat.le_of_ble_eq_true rfl) (All.cons (Ok.str (by decide +kernel)) All.nil), .inr (.inr (.inr (.inr ⟨T, _, rfl, e⟩)))⟩
  · exact ⟨Ok.bl true, .inr (.inr (.inl rfl))⟩
  · exact ⟨Ok.str (by decide +kernel), .inl ⟨_, rfl⟩⟩
  · exact ⟨Ok.str (by decide +kernel), .inl ⟨_, rfl⟩⟩
/-- what stands while a spoilt house is made -/
structure BS (H : Hp) (d c g r : Addr) (kg kr : List (Key × V)) (Hx : Hp) : Prop where
  b : But [d, c] H Hx
  D : DeckAt Hx d c
  eg : Hx g = some (.dK kg)
  er : Hx r = some (.dK kr)
  gh : GoodH Hx kr
theorem BS.same {H Hx Hy : Hp} {d c g r : Addr} {kg kr : List (Key × V)} (z : BS H d c g r kg kr Hx) (s : Same Hx Hy) : BS H d c g r kg kr Hy :=
  ⟨z.b.trans (But.of_same s), z.D.same s, s _ _ z.eg, s _ _ z.er, goodH_tups (Same.tups s) z.gh⟩
theorem BS.but {H Hx Hy : Hp} {d c g r : Addr} {kg kr : List (Key × V)} (z : BS H d c g r kg kr Hx) (ng : g ∉ [d, c]) (nr : r ∉ [d, c]) (b : But [d, c] Hx Hy) (D : DeckAt Hy d c) : BS H d c g r kg kr Hy :=
  ⟨z.b.trans b, D, b _ _ ng z.eg, b _ _ nr z.er, goodH_tups (z.D.tups b) z.gh⟩
theorem BS.occ {H Hx : Hp} {d c g r : Addr} {kg kr : List (Key × V)} (z : BS H d c g r kg kr Hx) : Occ [d, c, g, r] Hx := fun x hx => by
  rcases List.mem_cons.mp hx with rfl | hx
  · obtain ⟨xs, e⟩ := z.D.lists x (by simp); exact ⟨_, e⟩
  rcases List.mem_cons.mp hx with rfl | hx
  · obtain ⟨xs, e⟩ := z.D.lists x (by simp); exact ⟨_, e⟩
  rcases List.mem_cons.mp hx with rfl | hx
  · exact ⟨_, z.eg⟩
  · rw [List.mem_singleton.mp hx]; exact ⟨_, z.er⟩
theorem sub_dc {d c g r : Addr} : ∀ b ∈ [d, c], b ∈ [d, c, g, r] := fun b h => by
  rcases List.mem_cons.mp h with z | z
  · simp [z]
  · simp [List.mem_singleton.mp z]
theorem sub_gr {d c g r : Addr} : ∀ b ∈ [g, r], b ∈ [d, c, g, r] := fun b h => by
  rcases List.mem_cons.mp h with z | z
  · simp [z]
  · simp [List.mem_singleton.mp z]
/-- a thing that is no pair of dicts; a thing that is no dict -/
noncomputable def NP (S : List Addr) (H : Hp) (v : V) : Prop := ∃ t, Tg S H v t ∧ AscT t ∧ notPair t
noncomputable def ND (S : List Addr) (H : Hp) (v : V) : Prop := ∃ t, Tg S H v t ∧ AscT t ∧ tyTh t ≠ "dict"
theorem NP.but {S : List Addr} {H H' : Hp} (b : But S H H') (t : Tups H H') {v : V} (h : NP S H v) : NP S H' v := let ⟨x, a, c⟩ := h; ⟨x, a.but b t, c⟩
theorem ND.but {S : List Addr} {H H' : Hp} (b : But S H H') (t : Tups H H') {v : V} (h : ND S H v) : ND S H' v := let ⟨x, a, c⟩ := h; ⟨x, a.but b t, c⟩
theorem NP.same {S : List Addr} {H H' : Hp} (s : Same H H') {v : V} (h : NP S H v) : NP S H' v := h.but (But.of_same s) (Same.tups s)
theorem ND.same {S : List Addr} {H H' : Hp} (s : Same H H') {v : V} (h : ND S H v) : ND S H' v := h.but (But.of_same s) (Same.tups s)
theorem NP.tup {S : List Addr} {H : Hp} {a : Addr} {vs : List V} (e : H a = some (.tup vs)) (hl : vs.length ≤ 1000) (n2 : vs.length ≠ 2) (h : ∀ v ∈ vs, Ok S H v) : NP S H (.ref a) := by
  obtain ⟨ts, a1, a2⟩ := Ok.all h
  refine ⟨.tup ts, .tup e a1, .tup (by rw [← a1.length]; exact hl) a2, fun x y z => ?_⟩
  have := a1.length
  cases z
  exact absurd this n2
theorem NP.oth {S : List Addr} {H : Hp} {v : V} {T : String} (h : Tg S H v (.oth T)) : NP S H v := ⟨_, h, .oth T, fun x y z => by cases z⟩
theorem NP.non {S : List Addr} {H : Hp} : NP S H .non := ⟨_, .non, .non, fun x y z => by cases z⟩
theorem NP.int {S : List Addr} {H : Hp} (i : Int) : NP S H (.int i) := ⟨_, .int i, .int i, fun x y z => by cases z⟩
theorem two_all {t u : Th} (a : AscT t) (b : AscT u) : ∀ x ∈ [t, u], AscT x := fun x hx => (List.mem_cons.mp hx).elim (fun z => z ▸ a) fun z => (List.mem_singleton.mp z) ▸ b
theorem NP.two {S : List Addr} {H : Hp} {a : Addr} {v u : V} (e : H a = some (.tup [v, u])) (h1 : Ok S H v) (h2 : Ok S H u) (h : ND S H v ∨ ND S H u) : NP S H (.ref a) := by
  rcases h with ⟨t, a1, a2, a3⟩ | ⟨t, a1, a2, a3⟩
  · obtain ⟨w, b1, b2⟩ := h2
    exact ⟨.tup [t, w], .tup e (.cons a1 (.cons b1 .nil)), .tup (Nat.le_of_ble_eq_true rfl) (two_all a2 b2), fun x y z => by cases z; exact .inl a3⟩
  · obtain ⟨w, b1, b2⟩ := h1
    exact ⟨.tup [w, t], .tup e (.cons b1 (.cons a1 .nil)), .tup (Nat.le_of_ble_eq_true rfl) (two_all b2 a2), fun x y z => by cases z; exact .inr a3⟩
theorem ND.ok {S : List Addr} {H : Hp} {v : V} (h : ND S H v) : Ok S H v := let ⟨t, a, b, _⟩ := h; ⟨t, a, b⟩
theorem ND.tup {S : List Addr} {H : Hp} {a : Addr} {vs : List V} (e : H a = some (.tup vs)) (hl : vs.length ≤ 1000) (h : ∀ v ∈ vs, Ok S H v) : ND S H (.ref a) := by
  obtain ⟨ts, a1, a2⟩ := Ok.all h
  exact ⟨.tup ts, .tup e a1, .tup (by rw [← a1.length]; exact hl) a2, fun z => absurd z (by show ¬ "tuple" = "dict"; decide)⟩
theorem ND.lst {S : List Addr} {H : Hp} {a : Addr} {xs : List V} (e : H a = some (.lst xs)) (h : a ∉ S) : ND S H (.ref a) := ⟨_, .lst e h, .oth _, by show ¬ "list" = "dict"; decide⟩
theorem ND.non {S : List Addr} {H : Hp} : ND S H .non := ⟨_, .non, .non, by show ¬ "NoneType" = "dict"; decide⟩
theorem ND.int {S : List Addr} {H : Hp} (i : Int) : ND S H (.int i) := ⟨_, .int i, .int i, by show ¬ "int" = "dict"; decide⟩
theorem ND.str {S : List Addr} {H : Hp} {x : Str} (h : ascS x = true) : ND S H (.str x) := ⟨_, .str x, .lit h, by show ¬ "str" = "dict"; decide⟩
noncomputable def spCopy : Sp := fun vs H Q _ => ∃ h g r kg kr, vs = [.ref h] ∧ H h = some (.tup [.ref g, .ref r]) ∧ H g = some (.dK kg) ∧ H r = some (.dK kr) ∧
  ∀ h' g' r' H', Same H H' → H g' = none → H r' = none → g' ≠ r' → H' h' = some (.tup [.ref g', .ref r']) → H' g' = some (.dK kg) → H' r' = some (.dK kr) → Q (.ref h') H'
noncomputable def spBad (P : Program) (w : World) (K : PySem.W.Frag) : Sp := fun vs H Q _ => ∃ h d c g r kg kr, vs = [.ref h, .ref d] ∧ H h = some (.tup [.ref g, .ref r]) ∧ HG H g r kg kr ∧ DeckAt H d c ∧
  ∀ v S b H', But [d, c] H H' → DeckAt H' d c → HTh P w K S H' v b → (∀ x ∈ S, H x = none) → Q v H'
noncomputable def spHouseX (P : Program) (w : World) (K : PySem.W.Frag) : Sp := fun vs H Q _ => ∃ v, vs = [v] ∧ ((∃ t, IsTh K H v t ∧ AscT t ∧ notPair t ∧ ∀ H', Same H H' → Q (.bl false) H') ∨
  ∃ h g c kg lg kr lr tg tr, v = .ref h ∧ HB P w H h g c kg lg kr lr tg tr ∧ ∀ H', But [g, c] H H' → HB P w H' h g c kg lg kr lr tg tr → Q (.bl (houseT tg tr)) H')
theorem HG.but {S : List Addr} {H H' : Hp} {g r : Addr} {kg kr : List (Key × V)} (z : HG H g r kg kr) (b : But S H H') (ng : g ∉ S) (nr : r ∉ S) (t : Tups H H') : HG H' g r kg kr :=
  ⟨b _ _ ng z.eg, b _ _ nr z.er, z.ne, z.gn, goodH_tups t z.gh, z.dj, z.lg, z.lr⟩
theorem nin_fresh {S : List Addr} {H : Hp} {a : Addr} {o : HO} (e : H a = some o) (h : ∀ x ∈ S, H x = none) : a ∉ S := fun z => by rw [h a z] at e; cases e
theorem nin_deck {H : Hp} {d c a : Addr} (D : DeckAt H d c) {kvs : List (Key × V)} (e : H a = some (.dK kvs)) : a ∉ [d, c] := fun z => by
  obtain ⟨xs, q⟩ := D.lists a z
  rw [q] at e; cases e
theorem entsG {S : List Addr} {H : Hp} : ∀ {kg : List (Key × V)}, GoodN kg → ∃ tg, EntsT S H (ents kg none) tg ∧ ∀ t ∈ tg, (nameT t.1 && wholeT t.2) = true
  | [], _ => ⟨[], .nil, fun t ht => by simp at ht⟩
  | p :: kg, h => by
    obtain ⟨x, n, rfl, gx⟩ := h p (by simp)
    obtain ⟨tg, e, a⟩ := entsG (kg := kg) (S := S) (H := H) fun q hq => h q (List.mem_cons_of_mem _ hq)
    refine ⟨(.str x, .int n) :: tg, .cons ⟨⟨.str x, .name gx⟩, .int n, .int n⟩ e, fun t ht => ?_⟩
    rcases List.mem_cons.mp ht with rfl | z
    · have : nameT (.str x) = true := decide_eq_true gx
      rw [this]; rfl
    · exact a t z
theorem entsR {S : List Addr} {H : Hp} {kg : List (Key × V)} : ∀ {kr : List (Key × V)}, GoodH H kr → (∀ p ∈ kr, valV kg p.1 = none) → ∃ tr, EntsT S H (ents kr none) tr ∧ ∀ t ∈ tr, ∃ x, t.1 = .str x ∧ nameT t.1 = true ∧ valV kg (.inr x) = none ∧ szN 8 t.2 ≤ 100
  | [], _, _ => ⟨[], .nil, fun t ht => by simp at ht⟩
  | p :: kr, h, v => by
    obtain ⟨x, a, r, rfl, gx, R, gr, hn, hd⟩ := h p (by simp)
    obtain ⟨tr, e, b⟩ := entsR (kr := kr) (S := S) (fun q hq => h q (List.mem_cons_of_mem _ hq)) fun q hq => v q (List.mem_cons_of_mem _ hq)
    refine ⟨(.str x, r.toTh) :: tr, .cons ⟨⟨.str x, .name gx⟩, R.tg, r.asc gr⟩ e, fun t ht => ?_⟩
    rcases List.mem_cons.mp ht with rfl | z
    · refine ⟨x, rfl, decide_eq_true gx, v (.inr x, .ref a) (by simp), ?_⟩
      have e := szR_nodes 8 r gr hd
      have e' : szR 8 r = szN 8 r.toTh := rfl
      show szN 8 r.toTh ≤ 100
      omega
    · exact b t z
theorem good_house {P : Program} {w : World} {H : Hp} {h g c : Addr} {kg kr : List (Key × V)} (eh : H h = some (.tup [.ref g, .ref c])) (ne : g ≠ c) (eg : H g = some (.dK kg)) (er : H c = some (.dK kr)) (gn : GoodN kg) (gh : GoodH H kr) (dj : ∀ p ∈ kr, valV kg p.1 = none) :
    ∃ tg tr, houseT tg tr = true ∧ HB P w H h g c kg none kr none tg tr := by
  obtain ⟨tg, a1, a2⟩ := entsG (S := [g, c]) (H := H) gn
  obtain ⟨tr, b1, b2⟩ := entsR (S := [g, c]) (kg := kg) gh dj
  refine ⟨tg, tr, ?_, eh, ne, .inl ⟨eg, rfl⟩, .inl ⟨er, rfl⟩, oddL_none, oddL_none, textN gn, textH gh, a1, b1⟩
  unfold houseT
  rw [List.all_eq_true.mpr a2, Bool.true_and, List.all_eq_true]
  intro t ht
  obtain ⟨x, e, n, v, z⟩ := b2 t ht
  rw [n, decide_eq_true z, e, has_val oddL_none x (textN gn) a1, v]
  rfl
end RB

set_option maxRecDepth 100000
namespace RB
open PySem L2 PySem.Spec PyProof.Rows
end RB

set_option maxRecDepth 100000
namespace RB
open PySem L2 PySem.Spec PyProof.Rows
/-! ### things as data, and the law's own comparison -/
end RB

set_option maxRecDepth 100000
namespace RB
open PySem L2 PySem.Spec PyProof.Rows
end RB

set_option maxRecDepth 100000
namespace RB
open PySem L2 PySem.Spec PyProof.Rows
end RB

set_option maxRecDepth 100000
namespace L2
open PySem PySem.Spec PyProof.Rows RB
/-! ### t[lo:hi], the whole of it or not -/
section
variable {prog : Program} {w : World} {A : Around} {E : Value → Shared → Prop} {s : Shared}
end
end L2
namespace RB
open PySem L2 PySem.Spec PyProof.Rows
end RB

set_option maxRecDepth 100000
namespace L2
open PySem PySem.Spec PyProof.Rows RB
end L2

set_option maxRecDepth 100000
namespace L2
open PySem PySem.Spec PyProof.Rows RB
/-! ### (a dict, a dict) != a copy of it -/
theorem meets_pairNe {P : Program} {w : World} (a b : Addr) (x1 x2 y1 y2 : Value) (n m : Nat) (d1 d2 : Option Addr) (t1 t2 : Array (Option Value)) :
    MeetsIn P w (Builtin.«tuple.__ne__» ⟨[.ref a, .ref b], []⟩)
      (fun A R s => s.heap.get? a = some { cls := .type "tuple", dict := d1, data := .seq #[x1, x2] n, slots := t1 } ∧ s.heap.get? b = some { cls := .type "tuple", dict := d2, data := .seq #[y1, y2] m, slots := t2 } ∧
        EqIn P w A.in1 s x1 y1 ∧ EqIn P w A.in1 s x2 y2 ∧ R (.ok (.ret (.bool false))) s) := by
  intro A R s z
  obtain ⟨hp, g, d, tk, os⟩ := s
  obtain ⟨z1, z2, e1, e2, z⟩ := z
  have f2 := AutoSeq1.sub_tuple_tuple
  wp_walk using AutoSeq1.wpAny_loadPart' z1, AutoSeq1.wpAny_loadPart' z2, wpAny_forIn_list _ (fun rest c s' => c.1 = none ∧ s' = ⟨hp, g, d, tk, os⟩ ∧ (rest = [(x1, y1), (x2, y2)] ∨ rest = [(x2, y2)] ∨ rest = [])) _
  case turn =>
    rintro ⟨y, x⟩ rest c s' ⟨hc, rfl, h⟩
    rcases h with h | h | h
    · cases h
      refine wpAny_bind (e1 _ _ ?_)
      wp_walk
      exact ⟨rfl, rfl, .inr (.inl rfl)⟩
    · cases h
      refine wpAny_bind (e2 _ _ ?_)
      wp_walk
      exact ⟨rfl, rfl, .inr (.inr rfl)⟩
    · cases h
  case fin =>
    rintro ⟨c1, c2⟩ s' ⟨hc, rfl, _⟩
    simp only at hc
    subst hc
    wp_walk
    first | exact z | exact ⟨_, rfl, z⟩
  case h => exact ⟨rfl, rfl, .inl rfl⟩
noncomputable def rNePair (P : Program) (w : World) : R2 := fun x y H Q => ∃ a b g c g' c' kg kr, x = .ref a ∧ y = .ref b ∧ H a = some (.tup [.ref g', .ref c']) ∧ H b = some (.tup [.ref g, .ref c]) ∧
  DAt P w H g' kg none ∧ DAt P w H c' kr none ∧ DAt P w H g kg none ∧ DAt P w H c kr none ∧ (∀ p ∈ kg, plainV p.2 = true) ∧ (∀ p ∈ kr, plainV p.2 = true) ∧ Q (.bl false) H
theorem eqIn_dAt {X : Cx} {pins : List (Addr × Obj)} {σ : St} {H : Hp} {s : Shared} {A : Around} {a b : Addr} {kvs : List (Key × V)} (I : Inv X pins σ H s) (d1 : DAt X.prog X.w H a kvs none) (d2 : DAt X.prog X.w H b kvs none) (hp : ∀ p ∈ kvs, plainV p.2 = true) (hu : A.units < cLine) : EqIn X.prog X.w A s (.ref a) (.ref b) := by
  obtain ⟨o1, h1, l1, ⟨x1, es1, es1', ep1, vs1, q1, q2, q3, q4, q5, q6⟩, _⟩ := I.fix d1
  obtain ⟨o2, h2, l2, ⟨x2, es2, es2', ep2, vs2, r1, r2, r3, r4, r5, r6⟩, _⟩ := I.fix d2
  obtain rfl : es1' = es1 := q6
  obtain rfl : es2' = es2 := r6
  exact eqIn_dicts l1 l2 q5 r5 ⟨o1, _, _, h1, x1, q1, q2, q3, q4⟩ ⟨o2, _, _, h2, x2, r1, r2, r3, r4⟩ hp hu
theorem qop_nePair {P : Program} {w : World} {X : Cx} (eP : X.prog = P) (ew : X.w = w) (hu : X.A.units + 64 < cLine) : QOp X (compareOp .NotEq) (rNePair P w) := ⟨fun pins s σ H x y v u Q I rx ry h => by
  subst eP ew
  obtain ⟨a, b, g, c, g', c', kg, kr, rfl, rfl, ha, hb, d1, d2, d3, d4, p1, p2, q⟩ := h
  cases rx
  cases ry
  obtain ⟨_, its, r1, ta⟩ := (show ObjOk X.prog X.w H s.heap a (.tup [.ref g', .ref c']) from I.hok a _ ha)
  obtain ⟨_, jts, r2, tb⟩ := (show ObjOk X.prog X.w H s.heap b (.tup [.ref g, .ref c]) from I.hok b _ hb)
  obtain ⟨u1, u2, rfl, k1, k2⟩ := Vals.two r1
  obtain ⟨v1, v2, rfl, k3, k4⟩ := Vals.two r2
  cases k1
  cases k2
  cases k3
  cases k4
  obtain ⟨⟨c1, d1', dt1, t1⟩, hp, hc1, n, hd1⟩ := ta
  obtain ⟨⟨c2, d2', dt2, t2⟩, hq, hc2, m, hd2⟩ := tb
  simp only at hc1 hd1 hc2 hd2
  subst hc1 hd1 hc2 hd2
  have hT : s.TypeIs (.ref a) "tuple" := ⟨_, hp, rfl⟩
  refine wpAny_richCompare_same_room (op := .NotEq) hT ⟨_, hq, rfl⟩ F.slot_tuple_ne (call_meetsIn F.slot_tuple_ne hT F.entry_tuple_ne (F.args_tuple_ne_2 _ _) (meets_pairNe a b _ _ _ _ n m d1' d2' t1 t2) ⟨hp, hq, eqIn_dAt I d1 d3 p1 (by simp only [Around.in1_units]; omega), eqIn_dAt I d2 d4 p2 (by simp only [Around.in1_units]; omega), ?_⟩) (by omega)
  exact ⟨(fun x => nomatch x), ⟨.bl false, H, I, rfl, q⟩⟩⟩
end L2

set_option maxHeartbeats 4000000
namespace K03
open PySem L2 PySem.Spec PyProof.Rows RB
local macro_rules | `(tactic| walk_at "ne") => `(tactic| first | assumption | exact Ne.symm (by assumption) | exact ne_of_none (by assumption) (by assumption) | exact Ne.symm (ne_of_none (by assumption) (by assumption)))
local macro_rules | `(tactic| walk_at "heap") => `(tactic| first | assumption | exact upd_same | (refine (upd_ne (by walk_at "ne")).trans ?_; walk_at "heap"))
local macro_rules | `(tactic| walk_at "side") => `(tactic| first | with_reducible rfl | rfl | assumption | exact SqL.of (by walk_at "heap") | exact SqT.of (by walk_at "heap") | exact Or.inl (SqL.of (by walk_at "heap")) | exact Or.inr (SqT.of (by walk_at "heap")) | exact TyOf.str _ | exact TyOf.int _ | exact TyOf.bl _ | exact TyOf.tup (by walk_at "heap") | exact Or.inl ⟨rfl, _, SqL.of (by walk_at "heap")⟩ | exact Or.inl ⟨_, SqL.of (by walk_at "heap"), rfl⟩ | exact kit_same _ | exact Or.inl (by assumption) | exact Or.inr (by assumption) | walk_at "heap" | omega | (show _ ≤ sizeLine; decide) | (show _ < sizeLine; decide) | exact Or.inr ⟨by decide, by decide⟩ | exact Or.inl ⟨by decide, by decide⟩ | exact Or.inl ⟨by omega, by omega⟩ | exact Or.inr ⟨by omega, by omega⟩ | exact ⟨by omega, by decide⟩ | exact ⟨by omega, by assumption⟩ | exact ⟨by decide, by decide, by decide⟩ | exact ⟨_, SqT.of (by walk_at "heap")⟩ | exact ⟨_, SqL.of (by walk_at "heap")⟩ | (intro z; exact absurd (show (1 : Nat) = 0 from z.1) (by decide)) | (show Nat.log2 _ < 9000; decide +kernel) | ((rw [sizeLine_eq]); (try simp only [len_app]); omega) | exact Nat.le_of_lt (small1000 (by (simp only [List.length_cons, List.length_nil]); omega)) | decide +kernel)
local macro_rules | `(tactic| walk_at "v") => `(tactic| first
  | ((apply Exists.intro); (repeat apply Exists.intro); (refine And.intro ?_ ?_); walk_at "side")
  | ((refine And.intro ?_ ?_); walk_at "side"))
local macro_rules | `(tactic| walk_at "vs") => `(tactic| repeat walk_at "v")

noncomputable def top (i : Nat) : Stmt := PySem.Challenge.pw_madeagain_k03_what_is_a_house.main.body.getD i (.Pass ⟨0, 0, 0, 0⟩)

section
variable {P : Program} {w : World} {K : PySem.W.Frag} {mg : Str → Option Value} {base : Heap}
noncomputable abbrev s_is_whole_number : Stmt := top 7
theorem sc_is_whole_number : FnScope ["thing"] ["thing"] (defScope s_is_whole_number) := ⟨rfl, rfl, rfl, by decide +kernel, rfl, by decide +kernel, by decide +kernel⟩
theorem gl_is_whole_number_isinstance : (defScope s_is_whole_number).names.lookup ("isinstance" : Str) = some NameKind.globalImplicit := by decide +kernel
theorem gl_is_whole_number_bool : (defScope s_is_whole_number).names.lookup ("bool" : Str) = some NameKind.globalImplicit := by decide +kernel
theorem nn_is_whole_number_bool : ("bool" : Str) ≠ "__name__" := by decide +kernel
theorem db_is_whole_number_bool : (("bool" : Str) == ("__debug__" : Str)) = false := by decide +kernel
theorem vo_is_whole_number_thing : VarOk (defScope s_is_whole_number) "thing" := by decide +kernel
theorem nn_is_whole_number_isinstance : ("isinstance" : Str) ≠ "__name__" := by decide +kernel
theorem db_is_whole_number_isinstance : (("isinstance" : Str) == ("__debug__" : Str)) = false := by decide +kernel
theorem gl_is_whole_number_int : (defScope s_is_whole_number).names.lookup ("int" : Str) = some NameKind.globalImplicit := by decide +kernel
theorem nn_is_whole_number_int : ("int" : Str) ≠ "__name__" := by decide +kernel
theorem db_is_whole_number_int : (("int" : Str) == ("__debug__" : Str)) = false := by decide +kernel
theorem ok_is_whole_number {f : Addr} {fd : FuncData} (T_is_whole_number : FnT K mg "is_whole_number" s_is_whole_number ["thing"] f fd) (T : Blt mg) (kd : Kinds K) : FnOk P w K mg base CX0 1 f fd ["thing"] (spWhole K) := by
  refine T_is_whole_number.F.okQ sc_is_whole_number (fun vs H Q E h => ?_) (fun cdv A outer s H vs Q E hr h => ?_)
  · obtain ⟨v, t, rfl, _⟩ := h
    rfl
  obtain ⟨v, t, rfl, ht, q⟩ := h
  refine ⟨_, (qss_one (qs_ret (qe_and (qe_callB qc_isi gl_is_whole_number_isinstance T.b_isinstance bt_isinstance (qa_N (qe_var 0 vo_is_whole_number_thing) (qa_N (qe_bltn (v := .ty "int") gl_is_whole_number_int T.b_int bt_int rfl nn_is_whole_number_int db_is_whole_number_int) qa_nil)) nn_is_whole_number_isinstance db_is_whole_number_isinstance) (qe_one (qe_not (qe_callB qc_isi gl_is_whole_number_isinstance T.b_isinstance bt_isinstance (qa_N (qe_var 0 vo_is_whole_number_thing) (qa_N (qe_bltn (v := .ty "bool") gl_is_whole_number_bool T.b_bool bt_bool rfl nn_is_whole_number_bool db_is_whole_number_bool) qa_nil)) nn_is_whole_number_isinstance db_is_whole_number_isinstance)))))), ?_⟩
  have h1 := ht.ty
  have h2 := ht.isi kd (c := "int") (by simp [tys])
  have h3 := ht.isi kd (c := "bool") (by simp [tys])
  walk_at "vs"
  cases ht with
  | bl b => walk_at "vs"; exact q
  | int i => walk_at "vs"; exact q
  | non => exact q
  | str x => exact q
  | tup e h => exact q
  | oth h hT k => rcases hT with rfl | rfl <;> exact q
noncomputable abbrev s_is_name : Stmt := top 8
theorem sc_is_name : FnScope ["thing"] ["thing"] (defScope s_is_name) := ⟨rfl, rfl, rfl, by decide +kernel, rfl, by decide +kernel, by decide +kernel⟩
theorem gl_is_name_len : (defScope s_is_name).names.lookup ("len" : Str) = some NameKind.globalImplicit := by decide +kernel
theorem vo_is_name_thing : VarOk (defScope s_is_name) "thing" := by decide +kernel
theorem nn_is_name_len : ("len" : Str) ≠ "__name__" := by decide +kernel
theorem db_is_name_len : (("len" : Str) == ("__debug__" : Str)) = false := by decide +kernel
theorem gl_is_name_MOST_LETTERS : (defScope s_is_name).names.lookup ("MOST_LETTERS" : Str) = some NameKind.globalImplicit := by decide +kernel
theorem db_is_name_MOST_LETTERS : (("MOST_LETTERS" : Str) == ("__debug__" : Str)) = false := by decide +kernel
theorem gl_is_name_isinstance : (defScope s_is_name).names.lookup ("isinstance" : Str) = some NameKind.globalImplicit := by decide +kernel
theorem gl_is_name_str : (defScope s_is_name).names.lookup ("str" : Str) = some NameKind.globalImplicit := by decide +kernel
theorem nn_is_name_str : ("str" : Str) ≠ "__name__" := by decide +kernel
theorem db_is_name_str : (("str" : Str) == ("__debug__" : Str)) = false := by decide +kernel
theorem nn_is_name_isinstance : ("isinstance" : Str) ≠ "__name__" := by decide +kernel
theorem db_is_name_isinstance : (("isinstance" : Str) == ("__debug__" : Str)) = false := by decide +kernel
theorem gl_is_name_all : (defScope s_is_name).names.lookup ("all" : Str) = some NameKind.globalImplicit := by decide +kernel
theorem db_is_name_LETTERS : (("LETTERS" : Str) == ("__debug__" : Str)) = false := by decide +kernel
theorem nn_is_name_all : ("all" : Str) ≠ "__name__" := by decide +kernel
theorem db_is_name_all : (("all" : Str) == ("__debug__" : Str)) = false := by decide +kernel
theorem ok_is_name {f : Addr} {fd : FuncData} {tL tM : Tok} (T_is_name : FnT K mg "is_name" s_is_name ["thing"] f fd) (T : Blt mg) (kd : Kinds K) (mLT : mg "LETTERS" = some (.str "abcdefghijklmnopqrstuvwxyz" tL)) (mML : mg "MOST_LETTERS" = some (.int 8 tM)) :
    FnOk P w K mg base CX0 1 f fd ["thing"] (spIsName K) := by
  refine T_is_name.F.okQ sc_is_name (fun vs H Q E h => ?_) (fun cdv A outer s H vs Q E hr h => ?_)
  · obtain ⟨v, t, rfl, _⟩ := h
    rfl
  obtain ⟨v, t, rfl, ht, hsh, q⟩ := h
  refine ⟨_, (qss_cons (qs_if (qt_w (qw_or (qt_not (qt_val (qe_callB qc_isi gl_is_name_isinstance T.b_isinstance bt_isinstance (qa_N (qe_var 0 vo_is_name_thing) (qa_N (qe_bltn (v := .ty "str") gl_is_name_str T.b_str bt_str rfl nn_is_name_str db_is_name_str) qa_nil)) nn_is_name_isinstance db_is_name_isinstance))) (qw_or1 (qt_not (qt_chain qop_le qop_le qe_int (qe_callB qc_len_str gl_is_name_len T.b_len bt_len (qa_N (qe_var 0 vo_is_name_thing) qa_nil) nn_is_name_len db_is_name_len) (qe_glob (v := .int 8) gl_is_name_MOST_LETTERS mML ⟨_, rfl⟩ db_is_name_MOST_LETTERS)))))) (qss_one (qs_ret qe_bl)) qss_nil)
    (qss_one (qs_ret (qe_callB (qc_allB rfl) gl_is_name_all T.b_all bt_all (qa_M (qe_comp rfl (n := 1) (fr := []) (N := ["sign"]) (cs_mk (scX := defScope s_is_name) (NX := ["thing"]) rfl rfl (by decide +kernel)) (qi_str (qe_var 0 vo_is_name_thing)) (fun _ _ _ _ _ => (qgx (i := 0) (show List.Nodup (α := Str) ["sign"] by decide) (locC (by decide +kernel)))) (fun _ _ _ _ _ => qi_nil) (fun _ _ _ _ _ => (qe_cmp qop_in_str (qe_var 0 (VarC.ok (by decide +kernel))) (qe_glob (v := .str "abcdefghijklmnopqrstuvwxyz") (glC (by decide +kernel)) mLT ⟨_, rfl⟩ db_is_name_LETTERS) rfl))) qa_nil) nn_is_name_all db_is_name_all)))), ?_⟩
  have h1 := ht.ty
  have h2 := ht.isi kd (c := "str") (by simp [tys])
  walk_at "vs"
  cases ht with
  | non => exact q _ (Same.refl _)
  | bl b => exact q _ (Same.refl _)
  | int i => exact q _ (Same.refl _)
  | tup e h => exact q _ (Same.refl _)
  | oth h hT k => rcases hT with rfl | rfl <;> exact q _ (Same.refl _)
  | str x =>
    have hl := hsh.len
    walk_at "vs"
    refine ite2 (fun c1 => ?_) (fun c1 => ?_)
    · have c1' : 1 ≤ (x.length : Int) := by simpa using c1
      walk_at "vs"
      refine ite2 (fun c2 => ?_) (fun c2 => ?_)
      · have c2' : ¬ (x.length : Int) ≤ 8 := by simpa using c2
        walk_at "vs"
        have e : nameT (.str x) = false := decide_eq_false fun g => c2' (by have := g.2.1; omega)
        rw [e] at q
        exact q _ (Same.refl _)
      · have c2' : (x.length : Int) ≤ 8 := by simpa using c2
        walk_at "vs"
        intro D hD
        refine comp_str (fun i σ' H' => (∃ z, σ' = [z]) ∧ Same H H' ∧ H' D = some (.lst (((x.cps.toList.take i).map fun c => decide (isLow c)).map V.bl))) ?_ ?_ ?_
        · exact ⟨⟨none, rfl⟩, same_new _ hD, upd_same⟩
        · intro i c σ' H' hi hP
          obtain ⟨⟨z, rfl⟩, hs, hd⟩ := hP
          have hz : (((x.cps.toList.take i).map fun c => decide (isLow c)).map V.bl).length < sizeLine := by
            rw [List.length_map, List.length_map, List.length_take]
            have : x.cps.toList.length = x.length := by simp [Str.length]
            exact small1000 (by omega)
          walk_at "vs"
          refine ⟨⟨_, rfl⟩, same_updN _ hD hs, ?_⟩
          have hi' : x.cps.toList[i]? = some c := by simpa using hi
          rw [upd_same, low_iff, List.take_succ, hi', List.map_append, List.map_append]
          rfl
        · intro σ' H' hP
          obtain ⟨_, hs, hd⟩ := hP
          walk_at "vs"
          have e : nameT (.str x) = ((List.map (fun c => decide (isLow c)) (List.take x.cps.size x.cps.toList)).all id) := by
            rw [Bool.eq_iff_iff, show nameT (.str x) = decide (GName x) from rfl, decide_eq_true_eq, List.take_of_length_le (by simp), List.all_map, List.all_eq_true]
            constructor
            · intro g c hc
              exact decide_eq_true (g.2.2 c hc)
            · intro g
              exact ⟨by omega, by omega, fun c hc => of_decide_eq_true (g c hc)⟩
          rw [e] at q
          exact q _ hs
    · have c1' : ¬ 1 ≤ (x.length : Int) := by simpa using c1
      walk_at "vs"
      have e : nameT (.str x) = false := decide_eq_false fun g => c1' (by have := g.1; omega)
      rw [e] at q
      exact q _ (Same.refl _)
noncomputable abbrev s_is_choice : Stmt := top 9
theorem sc_is_choice : FnScope ["thing"] ["thing"] (defScope s_is_choice) := ⟨rfl, rfl, rfl, by decide +kernel, rfl, by decide +kernel, by decide +kernel⟩
theorem gl_is_choice_len : (defScope s_is_choice).names.lookup ("len" : Str) = some NameKind.globalImplicit := by decide +kernel
theorem vo_is_choice_thing : VarOk (defScope s_is_choice) "thing" := by decide +kernel
theorem nn_is_choice_len : ("len" : Str) ≠ "__name__" := by decide +kernel
theorem db_is_choice_len : (("len" : Str) == ("__debug__" : Str)) = false := by decide +kernel
theorem gl_is_choice_MOST_CHOICES : (defScope s_is_choice).names.lookup ("MOST_CHOICES" : Str) = some NameKind.globalImplicit := by decide +kernel
theorem db_is_choice_MOST_CHOICES : (("MOST_CHOICES" : Str) == ("__debug__" : Str)) = false := by decide +kernel
theorem gl_is_choice_isinstance : (defScope s_is_choice).names.lookup ("isinstance" : Str) = some NameKind.globalImplicit := by decide +kernel
theorem gl_is_choice_tuple : (defScope s_is_choice).names.lookup ("tuple" : Str) = some NameKind.globalImplicit := by decide +kernel
theorem nn_is_choice_tuple : ("tuple" : Str) ≠ "__name__" := by decide +kernel
theorem db_is_choice_tuple : (("tuple" : Str) == ("__debug__" : Str)) = false := by decide +kernel
theorem nn_is_choice_isinstance : ("isinstance" : Str) ≠ "__name__" := by decide +kernel
theorem db_is_choice_isinstance : (("isinstance" : Str) == ("__debug__" : Str)) = false := by decide +kernel
theorem gl_is_choice_all : (defScope s_is_choice).names.lookup ("all" : Str) = some NameKind.globalImplicit := by decide +kernel
theorem db_is_choice_is_name : (("is_name" : Str) == ("__debug__" : Str)) = false := by decide +kernel
theorem nn_is_choice_all : ("all" : Str) ≠ "__name__" := by decide +kernel
theorem db_is_choice_all : (("all" : Str) == ("__debug__" : Str)) = false := by decide +kernel
theorem ok_is_choice {f g : Addr} {fd gd : FuncData} {tM : Tok} (T_is_choice : FnT K mg "is_choice" s_is_choice ["thing"] f fd) (T_is_name : FnT K mg "is_name" s_is_name ["thing"] g gd)
    (G_is_name : FnOk P w K mg base CX0 1 g gd ["thing"] (spIsName K)) (T : Blt mg) (kd : Kinds K) (mMC : mg "MOST_CHOICES" = some (.int 9 tM)) :
    FnOk P w K mg base CX0 2 f fd ["thing"] (spChoice K) := by
  refine T_is_choice.F.okQ sc_is_choice (fun vs H Q E h => ?_) (fun cdv A outer s H vs Q E hr h => ?_)
  · obtain ⟨v, t, rfl, _⟩ := h
    rfl
  obtain ⟨v, t, rfl, ht, hsh, q⟩ := h
  refine ⟨_, (qss_cons (qs_if (qt_w (qw_or (qt_not (qt_val (qe_callB qc_isi gl_is_choice_isinstance T.b_isinstance bt_isinstance (qa_N (qe_var 0 vo_is_choice_thing) (qa_N (qe_bltn (v := .ty "tuple") gl_is_choice_tuple T.b_tuple bt_tuple rfl nn_is_choice_tuple db_is_choice_tuple) qa_nil)) nn_is_choice_isinstance db_is_choice_isinstance))) (qw_or1 (qt_not (qt_chain qop_le qop_le qe_int (qe_callB qc_len_seq gl_is_choice_len T.b_len bt_len (qa_N (qe_var 0 vo_is_choice_thing) qa_nil) nn_is_choice_len db_is_choice_len) (qe_glob (v := .int 9) gl_is_choice_MOST_CHOICES mMC ⟨_, rfl⟩ db_is_choice_MOST_CHOICES)))))) (qss_one (qs_ret qe_bl)) qss_nil)
    (qss_one (qs_ret (qe_callB (qc_allB rfl) gl_is_choice_all T.b_all bt_all (qa_M (qe_comp rfl (n := 1) (fr := []) (N := ["name"]) (cs_mk (scX := defScope s_is_choice) (NX := ["thing"]) rfl rfl (by decide +kernel)) (qi_tup (qe_var 0 vo_is_choice_thing)) (fun _ _ _ _ _ => (qgx (i := 0) (show List.Nodup (α := Str) ["name"] by decide) (locC (by decide +kernel)))) (fun _ _ _ _ _ => qi_nil) (fun _ _ _ _ _ => (qe_call (G_is_name.mono (by omega)) hr (glC (by decide +kernel)) T_is_name.m T_is_name.F.kp T_is_name.b .nil pass0 (qa_N (qe_var 0 (VarC.ok (by decide +kernel))) qa_nil) db_is_choice_is_name))) qa_nil) nn_is_choice_all db_is_choice_all)))), ?_⟩
  have h1 := ht.ty
  have h2 := ht.isi kd (c := "tuple") (by simp [tys])
  walk_at "vs"
  cases ht with
  | non => exact q _ (Same.refl _)
  | bl b => exact q _ (Same.refl _)
  | int i => exact q _ (Same.refl _)
  | str x => exact q _ (Same.refl _)
  | oth h hT k => rcases hT with rfl | rfl <;> exact q _ (Same.refl _)
  | @tup a ws ts e h =>
    have hl := h.length
    walk_at "vs"
    refine ite2 (fun c1 => ?_) (fun c1 => ?_)
    · have c1' : 1 ≤ (ws.length : Int) := by simpa using c1
      walk_at "vs"
      refine ite2 (fun c2 => ?_) (fun c2 => ?_)
      · have c2' : ¬ (ws.length : Int) ≤ 9 := by simpa using c2
        walk_at "vs"
        have ee : choiceT (.tup ts) = false := by
          show (decide (1 ≤ ts.length) && decide (ts.length ≤ 9) && ts.all nameT) = false
          rw [decide_eq_false (show ¬ ts.length ≤ 9 by omega)]; simp
        rw [ee] at q
        exact q _ (Same.refl _)
      · have c2' : (ws.length : Int) ≤ 9 := by simpa using c2
        walk_at "vs"
        intro D hD
        refine comp_tup (xs := ws) (fun i σ' H' => (∃ z, σ' = [z]) ∧ Same H H' ∧ H' D = some (.lst (((ts.take i).map nameT).map V.bl))) ?_ ?_ ?_ ?_
        · exact ⟨⟨none, rfl⟩, same_new _ hD, upd_same⟩
        · intro i σ' H' _ hP
          exact SqT.of (hP.2.1 _ _ e)
        · intro i x σ' H' hi hP
          obtain ⟨⟨z, rfl⟩, hs, hd⟩ := hP
          obtain ⟨t, ht1, ht2⟩ := h.get hi
          have ht3 := ht2.same hs
          have ht4 := hsh.of t (List.mem_of_getElem? ht1)
          have hz : (((ts.take i).map nameT).map V.bl).length < sizeLine := by
            rw [List.length_map, List.length_map, List.length_take]; exact small1000 (by omega)
          walk_at "vs"
          intro H5 s5
          have hd5 := s5 _ _ hd
          walk_at "vs"
          refine ⟨⟨_, rfl⟩, same_updN _ hD (hs.trans s5), ?_⟩
          rw [upd_same, List.take_succ, ht1, List.map_append, List.map_append]
          rfl
        · intro σ' H' hP
          obtain ⟨_, hs, hd⟩ := hP
          walk_at "vs"
          have ee : choiceT (.tup ts) = (((ts.take ws.length).map nameT).all id) := by
            show (decide (1 ≤ ts.length) && decide (ts.length ≤ 9) && ts.all nameT) = _
            rw [decide_eq_true (show 1 ≤ ts.length by omega), decide_eq_true (show ts.length ≤ 9 by omega), hl, List.take_length, List.all_map]
            rfl
          rw [ee] at q
          exact q _ hs
    · have c1' : ¬ 1 ≤ (ws.length : Int) := by simpa using c1
      walk_at "vs"
      have ee : choiceT (.tup ts) = false := by
        show (decide (1 ≤ ts.length) && decide (ts.length ≤ 9) && ts.all nameT) = false
        rw [decide_eq_false (show ¬ 1 ≤ ts.length by omega)]; simp
      rw [ee] at q
      exact q _ (Same.refl _)
end

section
variable {P : Program} {w : World} {K : PySem.W.Frag} {mg : Str → Option Value} {base : Heap}
noncomputable abbrev s_has_shape : Stmt := top 10
theorem sc_has_shape : FnScope ["thing", "kind"] ["thing"] (defScope s_has_shape) := ⟨rfl, rfl, rfl, by decide +kernel, rfl, by decide +kernel, by decide +kernel⟩
theorem gl_has_shape_isinstance : (defScope s_has_shape).names.lookup ("isinstance" : Str) = some NameKind.globalImplicit := by decide +kernel
theorem gl_has_shape_str : (defScope s_has_shape).names.lookup ("str" : Str) = some NameKind.globalImplicit := by decide +kernel
theorem nn_has_shape_str : ("str" : Str) ≠ "__name__" := by decide +kernel
theorem db_has_shape_str : (("str" : Str) == ("__debug__" : Str)) = false := by decide +kernel
theorem vo_has_shape_thing : VarOk (defScope s_has_shape) "thing" := by decide +kernel
theorem nn_has_shape_isinstance : ("isinstance" : Str) ≠ "__name__" := by decide +kernel
theorem db_has_shape_isinstance : (("isinstance" : Str) == ("__debug__" : Str)) = false := by decide +kernel
theorem gl_has_shape_len : (defScope s_has_shape).names.lookup ("len" : Str) = some NameKind.globalImplicit := by decide +kernel
theorem nn_has_shape_len : ("len" : Str) ≠ "__name__" := by decide +kernel
theorem db_has_shape_len : (("len" : Str) == ("__debug__" : Str)) = false := by decide +kernel
theorem gl_has_shape_tuple : (defScope s_has_shape).names.lookup ("tuple" : Str) = some NameKind.globalImplicit := by decide +kernel
theorem nn_has_shape_tuple : ("tuple" : Str) ≠ "__name__" := by decide +kernel
theorem db_has_shape_tuple : (("tuple" : Str) == ("__debug__" : Str)) = false := by decide +kernel
theorem lo_has_shape_kind : Loc (defScope s_has_shape) "kind" := by decide +kernel
theorem vo_has_shape_kind : VarOk (defScope s_has_shape) "kind" := by decide +kernel
theorem gl_has_shape_is_whole_number : (defScope s_has_shape).names.lookup ("is_whole_number" : Str) = some NameKind.globalImplicit := by decide +kernel
theorem db_has_shape_is_whole_number : (("is_whole_number" : Str) == ("__debug__" : Str)) = false := by decide +kernel
theorem gl_has_shape_is_name : (defScope s_has_shape).names.lookup ("is_name" : Str) = some NameKind.globalImplicit := by decide +kernel
theorem db_has_shape_is_name : (("is_name" : Str) == ("__debug__" : Str)) = false := by decide +kernel
theorem gl_has_shape_is_choice : (defScope s_has_shape).names.lookup ("is_choice" : Str) = some NameKind.globalImplicit := by decide +kernel
theorem db_has_shape_is_choice : (("is_choice" : Str) == ("__debug__" : Str)) = false := by decide +kernel
theorem gl_has_shape_WITHIN : (defScope s_has_shape).names.lookup ("WITHIN" : Str) = some NameKind.globalImplicit := by decide +kernel
theorem db_has_shape_WITHIN : (("WITHIN" : Str) == ("__debug__" : Str)) = false := by decide +kernel
theorem ok_has_shape {f g1 g2 g3 aW : Addr} {fd gd1 gd2 gd3 : FuncData} (T_has_shape : FnT K mg "has_shape" s_has_shape ["thing"] f fd)
    (T_is_whole_number : FnT K mg "is_whole_number" s_is_whole_number ["thing"] g1 gd1) (G_is_whole_number : FnOk P w K mg base CX0 1 g1 gd1 ["thing"] (spWhole K))
    (T_is_name : FnT K mg "is_name" s_is_name ["thing"] g2 gd2) (G_is_name : FnOk P w K mg base CX0 1 g2 gd2 ["thing"] (spIsName K))
    (T_is_choice : FnT K mg "is_choice" s_is_choice ["thing"] g3 gd3) (G_is_choice : FnOk P w K mg base CX0 2 g3 gd3 ["thing"] (spChoice K))
    (T : Blt mg) (kd : Kinds K) (mW : mg "WITHIN" = some (.ref aW)) (TW : Tab P w K aW withinD) : FnOk P w K mg base CX0 3 f fd ["thing"] (spShape K) := by
  refine T_has_shape.F.okQ sc_has_shape (fun vs H Q E h => ?_) (fun cdv A outer s H vs Q E hr h => ?_)
  · obtain ⟨v, t, rfl, _⟩ := h
    rfl
  obtain ⟨v, t, rfl, ht, hsh, q⟩ := h
  refine ⟨_, (qss_cons (qs_if (qt_w (qw_or (qt_not (qt_val (qe_callB qc_isi gl_has_shape_isinstance T.b_isinstance bt_isinstance (qa_N (qe_var 0 vo_has_shape_thing) (qa_N (qe_bltn (v := .ty "tuple") gl_has_shape_tuple T.b_tuple bt_tuple rfl nn_has_shape_tuple db_has_shape_tuple) qa_nil)) nn_has_shape_isinstance db_has_shape_isinstance))) (qw_or (qt_cmp qop_eq (qe_callB qc_len_seq gl_has_shape_len T.b_len bt_len (qa_N (qe_var 0 vo_has_shape_thing) qa_nil) nn_has_shape_len db_has_shape_len) qe_int (nomarkQ _)) (qw_or1 (qt_not (qt_val (qe_callB qc_isi gl_has_shape_isinstance T.b_isinstance bt_isinstance (qa_S (qe_ix qix_tup (qe_var 0 vo_has_shape_thing) qe_int) (qa_N (qe_bltn (v := .ty "str") gl_has_shape_str T.b_str bt_str rfl nn_has_shape_str db_has_shape_str) qa_nil)) nn_has_shape_isinstance db_has_shape_isinstance))))))) (qss_one (qs_ret qe_bl)) qss_nil)
    (qss_cons (qs_set (i := 1) sc_has_shape.nd rfl lo_has_shape_kind (qe_ix qix_tup (qe_var 0 vo_has_shape_thing) qe_int))
    (qss_cons (qs_if (qt_cmp qop_eq (qe_var 1 vo_has_shape_kind) qe_str (nomarkQ _)) (qss_one (qs_ret (qe_and (qe_cmp qop_eq (qe_callB qc_len_seq gl_has_shape_len T.b_len bt_len (qa_N (qe_var 0 vo_has_shape_thing) qa_nil) nn_has_shape_len db_has_shape_len) qe_int (nomarkQ _)) (qe_one (qe_call (G_is_whole_number.mono (by omega)) hr gl_has_shape_is_whole_number T_is_whole_number.m T_is_whole_number.F.kp T_is_whole_number.b .nil pass0 (qa_S (qe_ix qix_tup (qe_var 0 vo_has_shape_thing) qe_int) qa_nil) db_has_shape_is_whole_number))))) qss_nil)
    (qss_cons (qs_if (qt_cmp qop_eq (qe_var 1 vo_has_shape_kind) qe_str (nomarkQ _)) (qss_one (qs_ret (qe_and (qe_cmp qop_eq (qe_callB qc_len_seq gl_has_shape_len T.b_len bt_len (qa_N (qe_var 0 vo_has_shape_thing) qa_nil) nn_has_shape_len db_has_shape_len) qe_int (nomarkQ _)) (qe_one (qe_call (G_is_name.mono (by omega)) hr gl_has_shape_is_name T_is_name.m T_is_name.F.kp T_is_name.b .nil pass0 (qa_S (qe_ix qix_tup (qe_var 0 vo_has_shape_thing) qe_int) qa_nil) db_has_shape_is_name))))) qss_nil)
    (qss_cons (qs_if (qt_cmp qop_eq (qe_var 1 vo_has_shape_kind) qe_str (nomarkQ _)) (qss_one (qs_ret (qe_and (qe_cmp qop_eq (qe_callB qc_len_seq gl_has_shape_len T.b_len bt_len (qa_N (qe_var 0 vo_has_shape_thing) qa_nil) nn_has_shape_len db_has_shape_len) qe_int (nomarkQ _)) (qe_one (qe_call (G_is_choice.mono (by omega)) hr gl_has_shape_is_choice T_is_choice.m T_is_choice.F.kp T_is_choice.b .nil pass0 (qa_S (qe_ix qix_tup (qe_var 0 vo_has_shape_thing) qe_int) qa_nil) db_has_shape_is_choice))))) qss_nil)
    (qss_one (qs_ret (qe_and (qe_cmp (qop_inTab TW) (qe_var 1 vo_has_shape_kind) (qe_glob (v := .ref aW) gl_has_shape_WITHIN mW rfl db_has_shape_WITHIN) rfl) (qe_one (qe_cmp qop_eq (qe_callB qc_len_seq gl_has_shape_len T.b_len bt_len (qa_N (qe_var 0 vo_has_shape_thing) qa_nil) nn_has_shape_len db_has_shape_len) (qe_op qop_add qe_int (qe_ix (qix_tab TW) (qe_glob (v := .ref aW) gl_has_shape_WITHIN mW rfl db_has_shape_WITHIN) (qe_var 1 vo_has_shape_kind))) (nomarkQ _))))))))))), ?_⟩
  have h1 := ht.ty
  have h2 := ht.isi kd (c := "tuple") (by simp [tys])
  walk_at "vs"
  cases ht with
  | non => exact q _ (Same.refl _)
  | bl b => exact q _ (Same.refl _)
  | int i => exact q _ (Same.refl _)
  | str x => exact q _ (Same.refl _)
  | oth h hT k => rcases hT with rfl | rfl <;> exact q _ (Same.refl _)
  | @tup a ws ts e h =>
    cases h with
    | nil => walk_at "vs"; exact q _ (Same.refl _)
    | @cons x tx vs ts hx hr' =>
      have hl := hr'.length
      have h3 := hx.ty
      have h4 := hx.isi kd (c := "str") (by simp [tys])
      have at0 : atI (x :: vs) 0 = some x := atI_nat (j := 0) rfl
      walk_at "vs"
      cases hx with
      | non => exact q _ (Same.refl _)
      | bl b => exact q _ (Same.refl _)
      | int i => exact q _ (Same.refl _)
      | tup _ _ => exact q _ (Same.refl _)
      | oth h hT k => rcases hT with rfl | rfl <;> exact q _ (Same.refl _)
      | str k =>
        walk_at "vs"
        refine ite2 (fun c1 => ?_) (fun c1 => ?_)
        · have hk : k = "number" := V.str.inj (of_decide_eq_true c1)
          subst hk
          walk_at "vs"
          refine ite2 (fun c2 => ?_) (fun c2 => ?_)
          · have c3 := len_of.mp (of_decide_eq_true c2)
            cases hr' with
            | nil => simp at c3
            | @cons v1 t1 vs1 ts1 hv1 hr1 =>
              cases hr1 with
              | cons _ _ => simp at c3; omega
              | nil =>
                walk_at "vs"
                have ee : (shapeT (.tup [.str "number", t1])).isSome = wholeT t1 := by rw [shape_num]; cases wholeT t1 <;> rfl
                rw [ee] at q
                exact q _ (Same.refl _)
          · have c3 : ¬ (vs.length : Int) = 2 - 1 := fun z => c2 (decide_eq_true (len_of.mpr z))
            rw [shape_len1 (.inl rfl) (by omega)] at q
            exact q _ (Same.refl _)
        · walk_at "vs"
          refine ite2 (fun c2 => ?_) (fun c2 => ?_)
          · have hk : k = "read" := V.str.inj (of_decide_eq_true c2)
            subst hk
            walk_at "vs"
            refine ite2 (fun c2 => ?_) (fun c2 => ?_)
            · have c3 := len_of.mp (of_decide_eq_true c2)
              cases hr' with
              | nil => simp at c3
              | @cons v1 t1 vs1 ts1 hv1 hr1 =>
                cases hr1 with
                | cons _ _ => simp at c3; omega
                | nil =>
                  have hs1 := hsh.of t1 (by simp)
                  walk_at "vs"
                  intro H5 s5
                  have ee : (shapeT (.tup [.str "read", t1])).isSome = nameT t1 := by rw [shape_rd]; cases nameT t1 <;> rfl
                  rw [ee] at q
                  exact q _ s5
            · have c3 : ¬ (vs.length : Int) = 2 - 1 := fun z => c2 (decide_eq_true (len_of.mpr z))
              rw [shape_len1 (.inr rfl) (by omega)] at q
              exact q _ (Same.refl _)
          · walk_at "vs"
            refine ite2 (fun c3 => ?_) (fun c3 => ?_)
            · have hk : k = "choose" := V.str.inj (of_decide_eq_true c3)
              subst hk
              walk_at "vs"
              refine ite2 (fun c2 => ?_) (fun c2 => ?_)
              · have c3 := len_of.mp (of_decide_eq_true c2)
                cases hr' with
                | nil => simp at c3
                | @cons v1 t1 vs1 ts1 hv1 hr1 =>
                  cases hr1 with
                  | nil => simp at c3
                  | @cons v2 t2 vs2 ts2 hv2 hr2 =>
                    cases hr2 with
                    | cons _ _ => simp at c3; omega
                    | nil =>
                      have hs1 := hsh.of t2 (by simp)
                      walk_at "vs"
                      intro H5 s5
                      have ee : (shapeT (.tup [.str "choose", t1, t2])).isSome = choiceT t2 := by rw [shape_cho]; cases choiceT t2 <;> rfl
                      rw [ee] at q
                      exact q _ s5
              · have c3 : ¬ (vs.length : Int) = 3 - 1 := fun z => c2 (decide_eq_true (len_of.mpr z))
                rw [shape_len2 (.inl rfl) (by omega)] at q
                exact q _ (Same.refl _)
            · have n1 : k ≠ "number" := fun z => c1 (decide_eq_true (congrArg V.str z))
              have n2 : k ≠ "read" := fun z => c2 (decide_eq_true (congrArg V.str z))
              have n3 : k ≠ "choose" := fun z => c3 (decide_eq_true (congrArg V.str z))
              walk_at "vs"
              by_cases hop : k = "plus" ∨ k = "minus" ∨ k = "times" ∨ k = "most"
              · have lk : wLook k = some (.int 2) := by
                  rcases hop with z | z | z | z <;> rw [z]
                  · exact w_plus
                  · exact w_minus
                  · exact w_times
                  · exact w_most
                refine itB_t (show (wLook k).isSome = true by rw [lk]; rfl) ?_
                walk_at "vs"
                rw [op_isSome hop (x := V.str k) hl] at q
                exact q _ (Same.refl _)
              · by_cases hpk : k = "pick"
                · subst hpk
                  have lk := w_pick
                  refine itB_t (show (wLook "pick").isSome = true by rw [lk]; rfl) ?_
                  walk_at "vs"
                  rw [pick_isSome (x := V.str "pick") hl] at q
                  exact q _ (Same.refl _)
                · have hno : k ≠ "number" ∧ k ≠ "read" ∧ k ≠ "choose" ∧ k ≠ "plus" ∧ k ≠ "minus" ∧ k ≠ "times" ∧ k ≠ "most" ∧ k ≠ "pick" :=
                    ⟨n1, n2, n3, fun z => hop (.inl z), fun z => hop (.inr (.inl z)), fun z => hop (.inr (.inr (.inl z))), fun z => hop (.inr (.inr (.inr z))), hpk⟩
                  refine itB_f (show (wLook k).isSome = false by rw [w_none hno]; rfl) ?_
                  rw [shape_other hno] at q
                  exact q _ (Same.refl _)
noncomputable abbrev s_recipes_within : Stmt := top 11
theorem sc_recipes_within : FnScope ["r"] ["r"] (defScope s_recipes_within) := ⟨rfl, rfl, rfl, by decide +kernel, rfl, by decide +kernel, by decide +kernel⟩
theorem gl_recipes_within_WITHIN : (defScope s_recipes_within).names.lookup ("WITHIN" : Str) = some NameKind.globalImplicit := by decide +kernel
theorem db_recipes_within_WITHIN : (("WITHIN" : Str) == ("__debug__" : Str)) = false := by decide +kernel
theorem vo_recipes_within_r : VarOk (defScope s_recipes_within) "r" := by decide +kernel
theorem ok_recipes_within {f aW : Addr} {fd : FuncData} (T_recipes_within : FnT K mg "recipes_within" s_recipes_within ["r"] f fd) (T : Blt mg) (mW : mg "WITHIN" = some (.ref aW)) (TW : Tab P w K aW withinD) :
    FnOk P w K mg base CX0 1 f fd ["r"] (spWithin K) := by
  refine T_recipes_within.F.okQ sc_recipes_within (fun vs H Q E h => ?_) (fun cdv A outer s H vs Q E hr h => ?_)
  · obtain ⟨v, t, ks, H0, rfl, _⟩ := h
    rfl
  obtain ⟨v, t, ks, H0, rfl, ht, s0, hks, q⟩ := h
  refine ⟨_, (qss_one (qs_ret (qe_slice qsl_tup (qe_var 0 vo_recipes_within_r) (qo_some qe_int) (qo_some (qe_op qop_add qe_int (qe_ix (qix_tab TW) (qe_glob (v := .ref aW) gl_recipes_within_WITHIN mW rfl db_recipes_within_WITHIN) (qe_ix qix_tup (qe_var 0 vo_recipes_within_r) qe_int))))))), ?_⟩
  rcases shape_inv hks with ⟨x, rfl, rfl⟩ | ⟨x, rfl, rfl⟩ | ⟨x, y, rfl, rfl⟩ | ⟨k, x, y, hop, rfl, rfl⟩ | ⟨x, y, z, rfl, rfl⟩
  · cases ht with
    | @tup a ws ts e h =>
      cases h with
      | cons hx h => cases hx; cases h with
        | cons h1 h => cases h
                       have e' := s0 _ _ e
                       have lk := w_number
                       walk_at "vs"
                       intro p hp
                       exact q p [] _ (same_new _ hp) upd_same .nil
  · cases ht with
    | @tup a ws ts e h =>
      cases h with
      | cons hx h => cases hx; cases h with
        | cons h1 h => cases h
                       have e' := s0 _ _ e
                       have lk := w_read
                       walk_at "vs"
                       intro p hp
                       exact q p [] _ (same_new _ hp) upd_same .nil
  · cases ht with
    | @tup a ws ts e h =>
      cases h with
      | cons hx h => cases hx; cases h with
        | cons h1 h => cases h with
          | cons h2 h => cases h
                         have e' := s0 _ _ e
                         have lk := w_choose
                         walk_at "vs"
                         intro p hp
                         exact q p [_] _ (same_new _ hp) upd_same (.cons h1 .nil)
  · have lk : wLook k = some (.int 2) := by
      rcases hop with z | z | z | z <;> rw [z]
      · exact w_plus
      · exact w_minus
      · exact w_times
      · exact w_most
    cases ht with
    | @tup a ws ts e h =>
      cases h with
      | cons hx h => cases hx; cases h with
        | cons h1 h => cases h with
          | cons h2 h => cases h
                         have e' := s0 _ _ e
                         walk_at "vs"
                         intro p hp
                         exact q p [_, _] _ (same_new _ hp) upd_same (.cons h1 (.cons h2 .nil))
  · cases ht with
    | @tup a ws ts e h =>
      cases h with
      | cons hx h => cases hx; cases h with
        | cons h1 h => cases h with
          | cons h2 h => cases h with
            | cons h3 h => cases h
                           have e' := s0 _ _ e
                           have lk := w_pick
                           walk_at "vs"
                           intro p hp
                           exact q p [_, _, _] _ (same_new _ hp) upd_same (.cons h1 (.cons h2 (.cons h3 .nil)))
end

section
variable {P : Program} {w : World} {K : PySem.W.Frag} {mg : Str → Option Value} {base : Heap}
noncomputable abbrev s_is_recipe : Stmt := top 12
theorem sc_is_recipe : FnScope ["thing", "todo", "seen", "step", "depth", "part"] ["thing"] (defScope s_is_recipe) := ⟨rfl, rfl, rfl, by decide +kernel, rfl, by decide +kernel, by decide +kernel⟩
theorem lo_is_recipe_todo : Loc (defScope s_is_recipe) "todo" := by decide +kernel
theorem vo_is_recipe_thing : VarOk (defScope s_is_recipe) "thing" := by decide +kernel
theorem lo_is_recipe_seen : Loc (defScope s_is_recipe) "seen" := by decide +kernel
theorem vo_is_recipe_todo : VarOk (defScope s_is_recipe) "todo" := by decide +kernel
theorem lo_is_recipe_step : Loc (defScope s_is_recipe) "step" := by decide +kernel
theorem vo_is_recipe_seen : VarOk (defScope s_is_recipe) "seen" := by decide +kernel
theorem lo_is_recipe_depth : Loc (defScope s_is_recipe) "depth" := by decide +kernel
theorem vo_is_recipe_step : VarOk (defScope s_is_recipe) "step" := by decide +kernel
theorem gl_is_recipe_has_shape : (defScope s_is_recipe).names.lookup ("has_shape" : Str) = some NameKind.globalImplicit := by decide +kernel
theorem db_is_recipe_has_shape : (("has_shape" : Str) == ("__debug__" : Str)) = false := by decide +kernel
theorem vo_is_recipe_depth : VarOk (defScope s_is_recipe) "depth" := by decide +kernel
theorem gl_is_recipe_MOST_DEPTH : (defScope s_is_recipe).names.lookup ("MOST_DEPTH" : Str) = some NameKind.globalImplicit := by decide +kernel
theorem db_is_recipe_MOST_DEPTH : (("MOST_DEPTH" : Str) == ("__debug__" : Str)) = false := by decide +kernel
theorem gl_is_recipe_MOST_RECIPES : (defScope s_is_recipe).names.lookup ("MOST_RECIPES" : Str) = some NameKind.globalImplicit := by decide +kernel
theorem db_is_recipe_MOST_RECIPES : (("MOST_RECIPES" : Str) == ("__debug__" : Str)) = false := by decide +kernel
theorem gl_is_recipe_recipes_within : (defScope s_is_recipe).names.lookup ("recipes_within" : Str) = some NameKind.globalImplicit := by decide +kernel
theorem db_is_recipe_recipes_within : (("recipes_within" : Str) == ("__debug__" : Str)) = false := by decide +kernel
theorem lo_is_recipe_part : Loc (defScope s_is_recipe) "part" := by decide +kernel
theorem vo_is_recipe_part : VarOk (defScope s_is_recipe) "part" := by decide +kernel
theorem ok_is_recipe {f g1 g2 : Addr} {fd gd1 gd2 : FuncData} {tR tD : Tok} (T_is_recipe : FnT K mg "is_recipe" s_is_recipe ["thing"] f fd)
    (T_has_shape : FnT K mg "has_shape" s_has_shape ["thing"] g1 gd1) (G_has_shape : FnOk P w K mg base CX0 3 g1 gd1 ["thing"] (spShape K))
    (T_recipes_within : FnT K mg "recipes_within" s_recipes_within ["r"] g2 gd2) (G_recipes_within : FnOk P w K mg base CX0 1 g2 gd2 ["r"] (spWithin K))
    (T : Blt mg) (mMR : mg "MOST_RECIPES" = some (.int 100 tR)) (mMD : mg "MOST_DEPTH" = some (.int 8 tD)) : FnOk P w K mg base CX0 4 f fd ["thing"] (spIsRec K) := by
  refine T_is_recipe.F.okQ sc_is_recipe (fun vs H Q E h => ?_) (fun cdv A outer s H vs Q E hr h => ?_)
  · obtain ⟨v, t, rfl, _⟩ := h
    rfl
  obtain ⟨v, t, rfl, ht, hsh, q⟩ := h
  refine ⟨_, (qss_cons (qs_set (i := 1) sc_is_recipe.nd rfl lo_is_recipe_todo (qe_lst (qa_T (qe_tup (qa_N (qe_var 0 vo_is_recipe_thing) (qa_C qe_int qa_nil))) qa_nil)))
    (qss_cons (qs_set (i := 2) sc_is_recipe.nd rfl lo_is_recipe_seen qe_int)
    (qss_cons (qs_while PassesOwn.never (qt_truth (qe_var 1 vo_is_recipe_todo)) (qss_cons (qs_set (i := 3) sc_is_recipe.nd rfl lo_is_recipe_step (qe_bm0 PySem.F.plainAttrs_list PySem.F.slot_list_pop PySem.F.type_list_pop qmt_pop (qe_var 1 vo_is_recipe_todo)))
    (qss_cons (qs_set (i := 2) sc_is_recipe.nd rfl lo_is_recipe_seen (qe_op qop_add (qe_var 2 vo_is_recipe_seen) qe_int))
    (qss_cons (qs_set (i := 4) sc_is_recipe.nd rfl lo_is_recipe_depth (qe_ix qix_tup (qe_var 3 vo_is_recipe_step) qe_int))
    (qss_cons (qs_if (qt_w (qw_or (qt_cmp qop_gt (qe_var 2 vo_is_recipe_seen) (qe_glob (v := .int 100) gl_is_recipe_MOST_RECIPES mMR ⟨_, rfl⟩ db_is_recipe_MOST_RECIPES) (nomarkQ _)) (qw_or (qt_cmp qop_gt (qe_var 4 vo_is_recipe_depth) (qe_glob (v := .int 8) gl_is_recipe_MOST_DEPTH mMD ⟨_, rfl⟩ db_is_recipe_MOST_DEPTH) (nomarkQ _)) (qw_or1 (qt_not (qt_val (qe_call (G_has_shape.mono (by omega)) hr gl_is_recipe_has_shape T_has_shape.m T_has_shape.F.kp T_has_shape.b .nil pass0 (qa_S (qe_ix qix_tup (qe_var 3 vo_is_recipe_step) qe_int) qa_nil) db_is_recipe_has_shape))))))) (qss_one (qs_ret qe_bl)) qss_nil)
    (qss_one (qs_for PassesOwn.never rfl (qi_tup (qe_call (G_recipes_within.mono (by omega)) hr gl_is_recipe_recipes_within T_recipes_within.m T_recipes_within.F.kp T_recipes_within.b .nil pass0 (qa_S (qe_ix qix_tup (qe_var 3 vo_is_recipe_step) qe_int) qa_nil) db_is_recipe_recipes_within)) (qg_name (i := 5) sc_is_recipe.nd rfl lo_is_recipe_part) (qss_one (qs_expr (qe_bm PySem.F.plainAttrs_list PySem.F.slot_list_append PySem.F.type_list_append qmt_append (qe_var 1 vo_is_recipe_todo) (qa_T (qe_tup (qa_N (qe_var 5 vo_is_recipe_part) (qa_B (qe_op qop_add (qe_var 4 vo_is_recipe_depth) qe_int) qa_nil))) qa_nil)))))))))))
    (qss_one (qs_ret qe_bl))))), ?_⟩
  walk_at "vs"
  intro p1 hp1
  walk_at "vs"
  intro td htd
  walk_at "vs"
  have htH : H td = none := (same_new (.tup [v, V.int 1]) hp1).free htd
  refine ⟨fun m σ H' => ∃ (seen : Nat) (js : List Job) (t3 t4 t5 : Option V), m = 101 - seen ∧ σ = [some v, some (.ref td), some (.int seen), t3, t4, t5] ∧ Same H H' ∧ H' td = some (.lst (js.map fun j => V.ref j.a)) ∧ (∀ j ∈ js, JOk K H H' j) ∧
    seen ≤ 100 ∧ js.length ≤ 1 + 3 * seen ∧ (szN 8 t ≤ 100 ↔ seen + sumJ js ≤ 100), ⟨101, 0, [⟨p1, v, t, 1⟩], none, none, none, rfl, rfl, (same_new _ hp1).trans (same_new _ htd), upd_same, ?_, by decide, Nat.le_refl 1, ?_⟩, ?_⟩
  · intro j hj
    have : j = ⟨p1, v, t, 1⟩ := by simpa using hj
    subst this
    exact ⟨same_new _ htd _ _ upd_same, ht, hsh, Nat.le_refl 1, Nat.le_of_ble_eq_true rfl⟩
  · simp [sumJ]
  rintro m σ H1 ⟨seen, js, t3, t4, t5, rfl, rfl, s1, e1, hjs, h100, hlen, hiff⟩
  walk_at "vs"
  rcases List.eq_nil_or_concat js with rfl | ⟨js0, j, rfl⟩
  · walk_at "vs"
    have hd : decide (szN 8 t ≤ 100) = true := decide_eq_true (hiff.mpr (by simpa [sumJ] using h100))
    rw [hd] at q
    exact q _ s1
  · simp only [List.concat_eq_append] at e1 hjs hlen hiff ⊢
    refine itB_t (by simp) ?_
    rw [List.map_append] at e1
    obtain ⟨je, ji, jsh, jlo, jhi⟩ := hjs j (by simp)
    have hj0 : ∀ j' ∈ js0, JOk K H H1 j' := fun j' hj' => hjs j' (List.mem_append_left _ hj')
    have hl0 : js0.length + 1 ≤ 1 + 3 * seen := by simpa using hlen
    rw [sumJ_snoc] at hiff
    have hpos := szN_pos (9 - j.d) j.t
    refine ⟨fun σ' H' => ∃ (js : List Job) (t3 t4 t5 : Option V), σ' = [some v, some (.ref td), some (.int ((seen + 1 : Nat) : Int)), t3, t4, t5] ∧ Same H H' ∧ H' td = some (.lst (js.map fun j => V.ref j.a)) ∧ (∀ j ∈ js, JOk K H H' j) ∧
      seen + 1 ≤ 100 ∧ js.length ≤ 1 + 3 * (seen + 1) ∧ (szN 8 t ≤ 100 ↔ (seen + 1) + sumJ js ≤ 100), ?_, ?_⟩
    · rintro σ' H' ⟨js, t3, t4, t5, rfl, a1, a2, a3, a4, a5, a6⟩
      exact ⟨101 - (seen + 1), by omega, seen + 1, js, t3, t4, t5, rfl, rfl, a1, a2, a3, a4, a5, a6⟩
    · have e1' : H1 td = some (.lst ((js0.map fun j => V.ref j.a) ++ [V.ref j.a])) := e1
      have hlast : ((js0.map fun j => V.ref j.a) ++ [V.ref j.a])[((js0.map fun j => V.ref j.a) ++ [V.ref j.a]).length - 1]? = some (V.ref j.a) := by simp
      have hne : j.a ≠ td := ne_of je e1 (by intro z; cases z)
      walk_at "vs"
      rw [List.dropLast_concat]
      have tu : Tups H1 (upd H1 td (.lst (js0.map fun j => V.ref j.a))) := tups_set _ e1
      have je2 := tu _ _ je
      have s2 : Same H (upd H1 td (.lst (js0.map fun j => V.ref j.a))) := same_updN _ htH s1
      walk_at "vs"
      refine ite2 (fun c1 => ?_) (fun c1 => ?_)
      · have c1' : (100 : Int) < (seen : Int) + 1 := by simpa using c1
        walk_at "vs"
        have hd : decide (szN 8 t ≤ 100) = false := decide_eq_false fun z => by have := hiff.mp z; omega
        rw [hd] at q
        exact q _ s2
      · have c1' : ¬ (100 : Int) < (seen : Int) + 1 := by simpa using c1
        walk_at "vs"
        refine ite2 (fun c2 => ?_) (fun c2 => ?_)
        · have c2' : (8 : Int) < (j.d : Int) := by simpa using c2
          walk_at "vs"
          have hd : decide (szN 8 t ≤ 100) = false := decide_eq_false fun z => by
            have := hiff.mp z
            have e9 : 9 - j.d = 0 := by omega
            rw [e9] at this
            have : szN 0 j.t = 1000 := rfl
            omega
          rw [hd] at q
          exact q _ s2
        · have c2' : ¬ (8 : Int) < (j.d : Int) := by simpa using c2
          have ji2 := ji.same s2
          walk_at "vs"
          intro H5 s5
          have je5 := s5 _ _ je2
          have etd5 := s5 _ _ (upd_same (H := H1) (a := td) (o := .lst (js0.map fun j => V.ref j.a)))
          have s25 := s2.trans s5
          clear ji2
          cases hsp : shapeT j.t with
          | none =>
            walk_at "vs"
            have hd : decide (szN 8 t ≤ 100) = false := decide_eq_false fun z => by
              have := hiff.mp z
              have := szN_none (d := 9 - j.d) hsp
              omega
            rw [hd] at q
            exact q _ s25
          | some ks =>
            have hk3 := kids_le hsp
            have hks := kids_short hsp jsh
            walk_at "vs"
            intro a ws H6 s6 e6 h6
            have hwl := h6.length
            have etd6 := s6 _ _ etd5
            walk_at "vs"
            refine for_tup (xs := ws) (fun i σ' Hc => Wr (∃ (js' : List Job) (t5 : Option V), σ' = [some v, some (.ref td), some (.int ((seen : Int) + 1)), some (.ref j.a), some (.int j.d), t5] ∧ Same H Hc ∧ Hc td = some (.lst (js'.map fun j => V.ref j.a)) ∧ (∀ j ∈ js', JOk K H Hc j) ∧
              js'.length = js0.length + i ∧ sumJ js' = sumJ js0 + ((ks.take i).map (szN (8 - j.d))).sum ∧ Hc a = some (.tup ws))) ?_ ?_ ?_ ?_
            · exact .mk ⟨js0, _, rfl, s25.trans s6, etd6, fun j' hj' => (hj0 j' hj').tups (tu.trans (Same.tups (s5.trans s6))), rfl, by simp, e6⟩
            · intro i σ' Hc _ hP
              obtain ⟨_, _, _, _, _, _, _, _, ea⟩ := hP.h
              exact SqT.of ea
            · intro i x σ' Hc hx hP
              obtain ⟨js', t5', rfl, sc, etd, hj', hl', hsum, ea⟩ := hP.h
              obtain ⟨kt, hk1, hk2⟩ := h6.get hx
              have hi : i < ws.length := (List.getElem?_eq_some_iff.mp hx).1
              have hz : (js'.map fun j => V.ref j.a).length < sizeLine := by rw [List.length_map]; exact small1000 (by omega)
              walk_at "vs"
              intro p hp
              have hpn : td ≠ p := ne_of_none etd hp
              have sp := same_new (.tup [x, V.int ((j.d : Int) + 1)]) hp
              have etdp := sp _ _ etd
              walk_at "vs"
              have tu2 : Tups Hc _ := (Same.tups sp).trans (tups_set (.lst ((js'.map fun j => V.ref j.a) ++ [V.ref p])) etdp)
              refine .mk ⟨js' ++ [⟨p, x, kt, j.d + 1⟩], _, rfl, same_updN _ htH (sc.trans sp), ?_, ?_, ?_, ?_, ?_⟩
              · rw [upd_same, List.map_append]; rfl
              · intro j' hj2
                rcases List.mem_append.mp hj2 with z | z
                · exact (hj' j' z).tups tu2
                · have : j' = ⟨p, x, kt, j.d + 1⟩ := by simpa using z
                  subst this
                  refine ⟨?_, hk2, hks kt (List.mem_of_getElem? hk1), by show 1 ≤ j.d + 1; omega, by show j.d + 1 ≤ 9; omega⟩
                  rw [upd_ne (Ne.symm hpn)]
                  exact upd_same
              · rw [List.length_append, hl']; rfl
              · rw [sumJ_snoc, hsum, List.take_succ, hk1, List.map_append, List.sum_append]
                have : 9 - (j.d + 1) = 8 - j.d := by omega
                show _ + szN (9 - (j.d + 1)) kt = _
                rw [this]
                simp
                omega
              · exact tu2 _ _ ea
            · intro σ' Hc hP
              obtain ⟨js', t5', rfl, sc, etd, hj', hl', hsum, ea⟩ := hP.h
              rw [hwl, List.take_length] at hsum
              refine ⟨js', _, _, _, rfl, sc, etd, hj', by omega, by omega, ?_⟩
              rw [hiff, szN_some (by omega) hsp, hsum]
              omega
end

section
variable {P : Program} {w : World} {K : PySem.W.Frag} {mg : Str → Option Value} {base : Heap}
noncomputable abbrev s_law_draw : Stmt := top 16
theorem sc_law_draw : FnScope ["deck", "many", "at", "found", "number"] ["deck", "many"] (defScope s_law_draw) := ⟨rfl, rfl, rfl, by decide +kernel, rfl, by decide +kernel, by decide +kernel⟩
theorem lo_law_draw_at : Loc (defScope s_law_draw) "at" := by decide +kernel
theorem vo_law_draw_deck : VarOk (defScope s_law_draw) "deck" := by decide +kernel
theorem gl_law_draw_len : (defScope s_law_draw).names.lookup ("len" : Str) = some NameKind.globalImplicit := by decide +kernel
theorem nn_law_draw_len : ("len" : Str) ≠ "__name__" := by decide +kernel
theorem db_law_draw_len : (("len" : Str) == ("__debug__" : Str)) = false := by decide +kernel
theorem lo_law_draw_found : Loc (defScope s_law_draw) "found" := by decide +kernel
theorem vo_law_draw_at : VarOk (defScope s_law_draw) "at" := by decide +kernel
theorem vo_law_draw_many : VarOk (defScope s_law_draw) "many" := by decide +kernel
theorem vo_law_draw_found : VarOk (defScope s_law_draw) "found" := by decide +kernel
theorem lo_law_draw_number : Loc (defScope s_law_draw) "number" := by decide +kernel
theorem vo_law_draw_number : VarOk (defScope s_law_draw) "number" := by decide +kernel
theorem ok_law_draw {f : Addr} {fd : FuncData} (T_law_draw : FnT K mg "_law_draw" s_law_draw ["deck", "many"] f fd) (T : Blt mg) : FnOk P w K mg base CX0 1 f fd ["deck", "many"] spDraw := by
  refine T_law_draw.F.okQ sc_law_draw (fun vs H Q E h => ?_) (fun cdv A outer s H vs Q E hr h => ?_)
  · obtain ⟨d, c, many, rfl, _⟩ := h
    rfl
  obtain ⟨d, c, many, rfl, ⟨cells, mode, k, ne, hd, hc, hne, h63, hk⟩, hm, hlog, q⟩ := h
  refine ⟨_, (qss_cons (qs_set (i := 2) sc_law_draw.nd rfl lo_law_draw_at (qe_op qop_mod (qe_ix qix_list (qe_var 0 vo_law_draw_deck) qe_int) (qe_callB qc_len_seq gl_law_draw_len T.b_len bt_len (qa_S (qe_ix qix_list (qe_var 0 vo_law_draw_deck) qe_int) qa_nil) nn_law_draw_len db_law_draw_len)))
    (qss_cons (qs_asg (qe_op qop_add (qe_ix qix_list (qe_var 0 vo_law_draw_deck) qe_int) qe_int) (qg_sub (qe_var 0 vo_law_draw_deck) qe_int qset_list))
    (qss_cons (qs_if (qt_cmp qop_eq (qe_ix qix_list (qe_var 0 vo_law_draw_deck) qe_int) qe_int (nomarkQ _)) (qss_cons (qs_set (i := 3) sc_law_draw.nd rfl lo_law_draw_found (qe_op qop_mod (qe_ix qix_list (qe_ix qix_list (qe_var 0 vo_law_draw_deck) qe_int) (qe_var 2 vo_law_draw_at)) (qe_var 1 vo_law_draw_many)))
    (qss_cons (qs_asg (qe_op qop_fdiv (qe_ix qix_list (qe_ix qix_list (qe_var 0 vo_law_draw_deck) qe_int) (qe_var 2 vo_law_draw_at)) (qe_var 1 vo_law_draw_many)) (qg_sub (qe_ix qix_list (qe_var 0 vo_law_draw_deck) qe_int) (qe_var 2 vo_law_draw_at) qset_list))
    (qss_one (qs_ret (qe_var 3 vo_law_draw_found))))) qss_nil)
    (qss_cons (qs_set (i := 4) sc_law_draw.nd rfl lo_law_draw_number (qe_op qop_mod (qe_op qop_add (qe_op qop_mul (qe_op qop_mod (qe_ix qix_list (qe_ix qix_list (qe_var 0 vo_law_draw_deck) qe_int) (qe_var 2 vo_law_draw_at)) qe_int) qe_int) (qe_op qop_mul (qe_ix qix_list (qe_var 0 vo_law_draw_deck) qe_int) qe_int)) qe_int))
    (qss_cons (qs_set (i := 4) sc_law_draw.nd rfl lo_law_draw_number (qe_op qop_mod (qe_op qop_mul (qe_var 4 vo_law_draw_number) (qe_var 4 vo_law_draw_number)) qe_int))
    (qss_one (qs_ret (qe_op qop_mod (qe_op qop_fdiv (qe_op qop_mod (qe_op qop_add (qe_op qop_mul (qe_var 4 vo_law_draw_number) qe_int) (qe_ix qix_list (qe_var 0 vo_law_draw_deck) qe_int)) qe_int) qe_int) (qe_var 1 vo_law_draw_many))))))))), ?_⟩
  have hlen : 0 < ((cells.map V.int).length : Int) := by rw [List.length_map]; have := List.length_pos_iff.mpr hne; omega
  obtain ⟨v, j, hat, hix, hj, hset⟩ := at_ok (xs := cells) (i := k % ((cells.map V.int).length : Int)) (Int.emod_nonneg _ (by omega)) (Int.emod_lt_of_pos _ hlen)
  walk_at "vs"
  refine ite2 (fun c1 => ?_) (fun c1 => ?_)
  · walk_at "vs"
    refine q _ _ (Int.emod_nonneg _ (by omega)) (Int.emod_lt_of_pos _ hm) ((But.set _ (by simp)).trans (But.set _ (by simp))) ⟨cells.set j (v / many), mode, k + 1, ne, (upd_ne ne).trans upd_same, ?_, ?_, ?_, by omega⟩
    · rw [← hset]; exact upd_same
    · intro z
      have z' := congrArg List.length z
      rw [List.length_set, List.length_nil] at z'
      have := List.length_pos_iff.mpr hne
      omega
    · rw [List.length_set]; exact h63
  · walk_at "vs"
    exact q _ _ (Int.emod_nonneg _ (by omega)) (Int.emod_lt_of_pos _ hm) (But.set _ (by simp)) ⟨cells, mode, k + 1, ne, upd_same, (upd_ne (Ne.symm ne)).trans hc, hne, h63, by omega⟩
noncomputable abbrev s_law_name : Stmt := top 17
theorem sc_law_name : FnScope ["deck", "letters"] ["deck"] (defScope s_law_name) := ⟨rfl, rfl, rfl, by decide +kernel, rfl, by decide +kernel, by decide +kernel⟩
theorem gl_law_name__law_draw : (defScope s_law_name).names.lookup ("_law_draw" : Str) = some NameKind.globalImplicit := by decide +kernel
theorem vo_law_name_deck : VarOk (defScope s_law_name) "deck" := by decide +kernel
theorem db_law_name__law_draw : (("_law_draw" : Str) == ("__debug__" : Str)) = false := by decide +kernel
theorem lo_law_name_letters : Loc (defScope s_law_name) "letters" := by decide +kernel
theorem gl_law_name_range : (defScope s_law_name).names.lookup ("range" : Str) = some NameKind.globalImplicit := by decide +kernel
theorem ok_law_name {f g : Addr} {fd gd : FuncData} (T_law_name : FnT K mg "_law_name" s_law_name ["deck"] f fd) (T_law_draw : FnT K mg "_law_draw" s_law_draw ["deck", "many"] g gd)
    (G_law_draw : FnOk P w K mg base CX0 1 g gd ["deck", "many"] spDraw) (T : Blt mg) : FnOk P w K mg base CX0 2 f fd ["deck"] spName := by
  refine T_law_name.F.okQ sc_law_name (fun vs H Q E h => ?_) (fun cdv A outer s H vs Q E hr h => ?_)
  · obtain ⟨d, c, rfl, _⟩ := h
    rfl
  obtain ⟨d, c, rfl, hD, q⟩ := h
  refine ⟨_, (qss_cons (qs_if (qt_cmp qop_gt (qe_call (G_law_draw.mono (by omega)) hr gl_law_name__law_draw T_law_draw.m T_law_draw.F.kp T_law_draw.b .nil pass0 (qa_N (qe_var 0 vo_law_name_deck) (qa_C qe_int qa_nil)) db_law_name__law_draw) qe_int (nomarkQ _)) (qss_one (qs_ret (qe_ix qix_list (qe_lst (qa_C qe_str (qa_C qe_str (qa_C qe_str (qa_C qe_str (qa_C qe_str (qa_C qe_str qa_nil))))))) (qe_call (G_law_draw.mono (by omega)) hr gl_law_name__law_draw T_law_draw.m T_law_draw.F.kp T_law_draw.b .nil pass0 (qa_N (qe_var 0 vo_law_name_deck) (qa_C qe_int qa_nil)) db_law_name__law_draw)))) qss_nil)
    (qss_cons (qs_set (i := 1) sc_law_name.nd rfl lo_law_name_letters qe_str)
    (qss_one (qs_ret (qe_bm PySem.F.plainAttrs_str PySem.F.slot_str_join PySem.F.type_str_join qmt_join qe_str (qa_M (qe_comp rfl (n := 1) (fr := [1, 0]) (N := ["k", "letters", "deck"]) (cs_mk (scX := defScope s_law_name) (NX := ["deck", "letters"]) rfl rfl (by decide +kernel)) (qi_range1 gl_law_name_range T.b_range (qa_B (qe_op qop_add qe_int (qe_call (G_law_draw.mono (by omega)) hr gl_law_name__law_draw T_law_draw.m T_law_draw.F.kp T_law_draw.b .nil pass0 (qa_N (qe_var 0 vo_law_name_deck) (qa_C qe_int qa_nil)) db_law_name__law_draw)) qa_nil)) (fun _ _ _ _ _ => (qgx (i := 0) (show List.Nodup (α := Str) ["k", "letters", "deck"] by decide) (locC (by decide +kernel)))) (fun _ _ _ _ _ => qi_nil) (fun _ _ _ _ _ => (qe_ix qix_str (qe_var 1 (VarC.ok (by decide +kernel))) (qe_call (G_law_draw.mono (by omega)) hr (glC (by decide +kernel)) T_law_draw.m T_law_draw.F.kp T_law_draw.b .nil pass0 (qa_N (qe_var 2 (VarC.ok (by decide +kernel))) (qa_C qe_int qa_nil)) db_law_name__law_draw)))) qa_nil)))))), ?_⟩
  walk_at "vs"
  intro n1 H1 a1 a2 b1 D1
  walk_at "vs"
  refine ite2 (fun c1 => ?_) (fun c1 => ?_)
  · walk_at "vs"
    intro p hp
    have D2 := D1.same (same_new (.lst [V.str "a", V.str "b", V.str "ab", V.str "x", V.str "y", V.str "zzzzzzzz"]) hp)
    walk_at "vs"
    intro n2 H2 e1 e2 b2 D3
    have hl := b2 p _ (D1.fresh hp) upd_same
    obtain ⟨x, hx, gx⟩ := six e1 e2
    walk_at "vs"
    exact q x H2 gx (b1.trans ((But.new _ hp).trans b2)) D3
  · walk_at "vs"
    intro n2 H2 e1 e2 b2 D2
    walk_at "vs"
    intro Dd hDd
    refine comp_range (fun i σ' H' => (∃ t, σ' = t :: [some (.str "abcdefghijklmnopqrstuvwxyz"), some (.ref d)]) ∧ ∃ ts : List Str, H' Dd = some (.lst (ts.map V.str)) ∧ ts.length = i ∧ (∀ x ∈ ts, OneLow x) ∧ But [d, c] H2 H' ∧ DeckAt H' d c) ?_ ?_ ?_
    · exact ⟨⟨none, rfl⟩, [], upd_same, rfl, by simp, (But.refl _ _).upd _ hDd, D2.upd _ (D2.fresh hDd)⟩
    · intro i σ' H' hi hP
      obtain ⟨⟨t, rfl⟩, ts, e, el, ho, hb, hDk⟩ := hP
      walk_at "vs"
      intro n3 H3 f1 f2 b3 D3
      obtain ⟨ch, hch, lo⟩ := letter f1 f2
      have hnin : Dd ∉ [d, c] := D2.fresh hDd
      have hl := b3 Dd _ hnin e
      have hz : (ts.map V.str).length < sizeLine := by rw [List.length_map]; exact small1000 (by omega)
      walk_at "vs"
      refine ⟨⟨_, rfl⟩, ts ++ [⟨#[ch]⟩], ?_, by rw [List.length_append, el]; rfl, ?_, (hb.trans b3).upd _ hDd, D3.upd _ hnin⟩
      · rw [List.map_append]; exact upd_same
      · intro x hx
        rcases List.mem_append.mp hx with z | z
        · exact ho x z
        · have : x = ⟨#[ch]⟩ := by simpa using z
          exact ⟨ch, this, lo⟩
    · intro σ' H' hP
      obtain ⟨_, ts, e, el, ho, hb, hDk⟩ := hP
      have hjo : JoinOk "" ts = true := joinOk (k := 1) (fun x hx => by obtain ⟨c', rfl, _⟩ := ho x hx; exact Nat.le_refl _) (by
        have : ("" : Str).length = 0 := by decide +kernel
        rw [this]; omega)
      walk_at "vs"
      exact q _ H' (join_name ho (by omega) (by omega)) (b1.trans (b2.trans hb)) hDk
noncomputable abbrev s_law_number : Stmt := top 18
theorem sc_law_number : FnScope ["deck", "great"] ["deck"] (defScope s_law_number) := ⟨rfl, rfl, rfl, by decide +kernel, rfl, by decide +kernel, by decide +kernel⟩
theorem gl_law_number__law_draw : (defScope s_law_number).names.lookup ("_law_draw" : Str) = some NameKind.globalImplicit := by decide +kernel
theorem vo_law_number_deck : VarOk (defScope s_law_number) "deck" := by decide +kernel
theorem db_law_number__law_draw : (("_law_draw" : Str) == ("__debug__" : Str)) = false := by decide +kernel
theorem lo_law_number_great : Loc (defScope s_law_number) "great" := by decide +kernel
theorem vo_law_number_great : VarOk (defScope s_law_number) "great" := by decide +kernel
theorem ok_law_number {f g : Addr} {fd gd : FuncData} (T_law_number : FnT K mg "_law_number" s_law_number ["deck"] f fd) (T_law_draw : FnT K mg "_law_draw" s_law_draw ["deck", "many"] g gd)
    (G_law_draw : FnOk P w K mg base CX0 1 g gd ["deck", "many"] spDraw) : FnOk P w K mg base CX0 2 f fd ["deck"] spNumber := by
  refine T_law_number.F.okQ sc_law_number (fun vs H Q E h => ?_) (fun cdv A outer s H vs Q E hr h => ?_)
  · obtain ⟨d, c, rfl, _⟩ := h
    rfl
  obtain ⟨d, c, rfl, hD, q⟩ := h
  refine ⟨_, (qss_cons (qs_if (qt_cmp qop_gt (qe_call (G_law_draw.mono (by omega)) hr gl_law_number__law_draw T_law_draw.m T_law_draw.F.kp T_law_draw.b .nil pass0 (qa_N (qe_var 0 vo_law_number_deck) (qa_C qe_int qa_nil)) db_law_number__law_draw) qe_int (nomarkQ _)) (qss_one (qs_ret (qe_op qop_sub (qe_call (G_law_draw.mono (by omega)) hr gl_law_number__law_draw T_law_draw.m T_law_draw.F.kp T_law_draw.b .nil pass0 (qa_N (qe_var 0 vo_law_number_deck) (qa_C qe_int qa_nil)) db_law_number__law_draw) qe_int))) qss_nil)
    (qss_cons (qs_set (i := 1) sc_law_number.nd rfl lo_law_number_great (qe_op qop_sub (qe_op qop_pow qe_int qe_int) qe_int))
    (qss_one (qs_ret (qe_op qop_sub (qe_call (G_law_draw.mono (by omega)) hr gl_law_number__law_draw T_law_draw.m T_law_draw.F.kp T_law_draw.b .nil pass0 (qa_N (qe_var 0 vo_law_number_deck) (qa_B (qe_op qop_add (qe_op qop_mul qe_int (qe_var 1 vo_law_number_great)) qe_int) qa_nil)) db_law_number__law_draw) (qe_var 1 vo_law_number_great)))))), ?_⟩
  walk_at "vs"
  intro n1 H1 a1 a2 b1 D1
  walk_at "vs"
  refine ite2 (fun c1 => ?_) (fun c1 => ?_)
  · walk_at "vs"
    intro n2 H2 e1 e2 b2 D2
    walk_at "vs"
    exact q _ H2 (by show (n2 - 10).natAbs < 10 ^ 40; have : (10 : Nat) ^ 40 = 10000000000000000000000000000000000000000 := by decide +kernel
                     omega) (b1.trans b2) D2
  · walk_at "vs"
    intro n2 H2 e1 e2 b2 D2
    walk_at "vs"
    have z : (10 : Int) ^ (Int.toNat 40) = 10000000000000000000000000000000000000000 := by decide +kernel
    have z' : (10 : Nat) ^ 40 = 10000000000000000000000000000000000000000 := by decide +kernel
    have e2' : n2 < 2 * ((10 : Int) ^ (Int.toNat 40) - 1) + 1 := e2
    refine q _ H2 ?_ (b1.trans b2) D2
    show (n2 - ((10 : Int) ^ (Int.toNat 40) - 1)).natAbs < 10 ^ 40
    rw [z] at e2' ⊢
    rw [z']
    omega
end

section
variable {P : Program} {w : World} {K : PySem.W.Frag} {mg : Str → Option Value} {base : Heap}
noncomputable abbrev s_law_recipe : Stmt := top 19
theorem sc_law_recipe : FnScope ["deck", "deep", "left", "kind", "one", "word", "two"] ["deck", "deep", "left"] (defScope s_law_recipe) := ⟨rfl, rfl, rfl, by decide +kernel, rfl, by decide +kernel, by decide +kernel⟩
theorem vo_law_recipe_left : VarOk (defScope s_law_recipe) "left" := by decide +kernel
theorem lo_law_recipe_kind : Loc (defScope s_law_recipe) "kind" := by decide +kernel
theorem gl_law_recipe__law_draw : (defScope s_law_recipe).names.lookup ("_law_draw" : Str) = some NameKind.globalImplicit := by decide +kernel
theorem vo_law_recipe_deck : VarOk (defScope s_law_recipe) "deck" := by decide +kernel
theorem db_law_recipe__law_draw : (("_law_draw" : Str) == ("__debug__" : Str)) = false := by decide +kernel
theorem vo_law_recipe_kind : VarOk (defScope s_law_recipe) "kind" := by decide +kernel
theorem vo_law_recipe_deep : VarOk (defScope s_law_recipe) "deep" := by decide +kernel
theorem gl_law_recipe__law_number : (defScope s_law_recipe).names.lookup ("_law_number" : Str) = some NameKind.globalImplicit := by decide +kernel
theorem db_law_recipe__law_number : (("_law_number" : Str) == ("__debug__" : Str)) = false := by decide +kernel
theorem gl_law_recipe__law_name : (defScope s_law_recipe).names.lookup ("_law_name" : Str) = some NameKind.globalImplicit := by decide +kernel
theorem db_law_recipe__law_name : (("_law_name" : Str) == ("__debug__" : Str)) = false := by decide +kernel
theorem lo_law_recipe_one : Loc (defScope s_law_recipe) "one" := by decide +kernel
theorem gl_law_recipe__law_recipe : (defScope s_law_recipe).names.lookup ("_law_recipe" : Str) = some NameKind.globalImplicit := by decide +kernel
theorem db_law_recipe__law_recipe : (("_law_recipe" : Str) == ("__debug__" : Str)) = false := by decide +kernel
theorem lo_law_recipe_word : Loc (defScope s_law_recipe) "word" := by decide +kernel
theorem vo_law_recipe_one : VarOk (defScope s_law_recipe) "one" := by decide +kernel
theorem vo_law_recipe_word : VarOk (defScope s_law_recipe) "word" := by decide +kernel
theorem lo_law_recipe_two : Loc (defScope s_law_recipe) "two" := by decide +kernel
theorem vo_law_recipe_two : VarOk (defScope s_law_recipe) "two" := by decide +kernel
theorem gl_law_recipe_tuple : (defScope s_law_recipe).names.lookup ("tuple" : Str) = some NameKind.globalImplicit := by decide +kernel
theorem gl_law_recipe_range : (defScope s_law_recipe).names.lookup ("range" : Str) = some NameKind.globalImplicit := by decide +kernel
theorem nn_law_recipe_tuple : ("tuple" : Str) ≠ "__name__" := by decide +kernel
theorem db_law_recipe_tuple : (("tuple" : Str) == ("__debug__" : Str)) = false := by decide +kernel
theorem step_law_recipe {m : Nat} {f g1 g2 g3 : Addr} {fd gd1 gd2 gd3 : FuncData} (T_law_recipe : FnT K mg "_law_recipe" s_law_recipe ["deck", "deep", "left"] f fd)
    (T_law_draw : FnT K mg "_law_draw" s_law_draw ["deck", "many"] g1 gd1) (G_law_draw : FnOk P w K mg base CX0 1 g1 gd1 ["deck", "many"] spDraw)
    (T_law_name : FnT K mg "_law_name" s_law_name ["deck"] g2 gd2) (G_law_name : FnOk P w K mg base CX0 2 g2 gd2 ["deck"] spName)
    (T_law_number : FnT K mg "_law_number" s_law_number ["deck"] g3 gd3) (G_law_number : FnOk P w K mg base CX0 2 g3 gd3 ["deck"] spNumber)
    (G_law_recipe : FnOk P w K mg base CX0 (m + 2) f fd ["deck", "deep", "left"] (spRec2 m)) (T : Blt mg) : FnOk P w K mg base CX0 (m + 3) f fd ["deck", "deep", "left"] (spRec2 (m + 1)) := by
  refine T_law_recipe.F.okQ sc_law_recipe (fun vs H Q E h => ?_) (fun cdv A outer s H vs Q E hr h => ?_)
  · obtain ⟨d, c, l, deep, k, rfl, _⟩ := h
    rfl
  obtain ⟨d, c, l, deep, k, rfl, hD, hl, ld, lc, h1, h2, q⟩ := h
  have lnin : l ∉ [d, c] := by simp [ld, lc]
  refine ⟨_, (qss_cons (qs_asg (qe_op qop_sub (qe_ix qix_list (qe_var 2 vo_law_recipe_left) qe_int) qe_int) (qg_sub (qe_var 2 vo_law_recipe_left) qe_int qset_list))
    (qss_cons (qs_set (i := 3) sc_law_recipe.nd rfl lo_law_recipe_kind (qe_call (G_law_draw.mono (by omega)) hr gl_law_recipe__law_draw T_law_draw.m T_law_draw.F.kp T_law_draw.b .nil pass0 (qa_N (qe_var 0 vo_law_recipe_deck) (qa_C qe_int qa_nil)) db_law_recipe__law_draw))
    (qss_cons (qs_if (qt_w (qw_or (qt_cmp qop_lt (qe_var 1 vo_law_recipe_deep) qe_int (nomarkQ _)) (qw_or (qt_cmp qop_lt (qe_ix qix_list (qe_var 2 vo_law_recipe_left) qe_int) qe_int (nomarkQ _)) (qw_or1 (qt_cmp qop_lt (qe_var 3 vo_law_recipe_kind) qe_int (nomarkQ _)))))) (qss_cons (qs_if (qt_cmp qop_eq (qe_call (G_law_draw.mono (by omega)) hr gl_law_recipe__law_draw T_law_draw.m T_law_draw.F.kp T_law_draw.b .nil pass0 (qa_N (qe_var 0 vo_law_recipe_deck) (qa_C qe_int qa_nil)) db_law_recipe__law_draw) qe_int (nomarkQ _)) (qss_one (qs_ret (qe_tup (qa_C qe_str (qa_F (qe_call (G_law_number.mono (by omega)) hr gl_law_recipe__law_number T_law_number.m T_law_number.F.kp T_law_number.b .nil pass0 (qa_N (qe_var 0 vo_law_recipe_deck) qa_nil) db_law_recipe__law_number) qa_nil))))) qss_nil)
    (qss_one (qs_ret (qe_tup (qa_C qe_str (qa_F (qe_call (G_law_name.mono (by omega)) hr gl_law_recipe__law_name T_law_name.m T_law_name.F.kp T_law_name.b .nil pass0 (qa_N (qe_var 0 vo_law_recipe_deck) qa_nil) db_law_recipe__law_name) qa_nil)))))) qss_nil)
    (qss_cons (qs_set (i := 4) sc_law_recipe.nd rfl lo_law_recipe_one (qe_call (G_law_recipe.mono (by omega)) hr gl_law_recipe__law_recipe T_law_recipe.m T_law_recipe.F.kp T_law_recipe.b .nil pass0 (qa_N (qe_var 0 vo_law_recipe_deck) (qa_B (qe_op qop_sub (qe_var 1 vo_law_recipe_deep) qe_int) (qa_N (qe_var 2 vo_law_recipe_left) qa_nil))) db_law_recipe__law_recipe))
    (qss_cons (qs_if (qt_cmp qop_lt (qe_var 3 vo_law_recipe_kind) qe_int (nomarkQ _)) (qss_cons (qs_set (i := 5) sc_law_recipe.nd rfl lo_law_recipe_word (qe_ix qix_list (qe_lst (qa_C qe_str (qa_C qe_str (qa_C qe_str (qa_C qe_str (qa_C qe_str qa_nil)))))) (qe_op qop_sub (qe_var 3 vo_law_recipe_kind) qe_int)))
    (qss_one (qs_ret (qe_tup (qa_N (qe_var 5 vo_law_recipe_word) (qa_N (qe_var 4 vo_law_recipe_one) (qa_F (qe_call (G_law_recipe.mono (by omega)) hr gl_law_recipe__law_recipe T_law_recipe.m T_law_recipe.F.kp T_law_recipe.b .nil pass0 (qa_N (qe_var 0 vo_law_recipe_deck) (qa_B (qe_op qop_sub (qe_var 1 vo_law_recipe_deep) qe_int) (qa_N (qe_var 2 vo_law_recipe_left) qa_nil))) db_law_recipe__law_recipe) qa_nil))))))) qss_nil)
    (qss_cons (qs_if (qt_cmp qop_eq (qe_var 3 vo_law_recipe_kind) qe_int (nomarkQ _)) (qss_cons (qs_set (i := 6) sc_law_recipe.nd rfl lo_law_recipe_two (qe_call (G_law_recipe.mono (by omega)) hr gl_law_recipe__law_recipe T_law_recipe.m T_law_recipe.F.kp T_law_recipe.b .nil pass0 (qa_N (qe_var 0 vo_law_recipe_deck) (qa_B (qe_op qop_sub (qe_var 1 vo_law_recipe_deep) qe_int) (qa_N (qe_var 2 vo_law_recipe_left) qa_nil))) db_law_recipe__law_recipe))
    (qss_one (qs_ret (qe_tup (qa_C qe_str (qa_N (qe_var 4 vo_law_recipe_one) (qa_N (qe_var 6 vo_law_recipe_two) (qa_F (qe_call (G_law_recipe.mono (by omega)) hr gl_law_recipe__law_recipe T_law_recipe.m T_law_recipe.F.kp T_law_recipe.b .nil pass0 (qa_N (qe_var 0 vo_law_recipe_deck) (qa_B (qe_op qop_sub (qe_var 1 vo_law_recipe_deep) qe_int) (qa_N (qe_var 2 vo_law_recipe_left) qa_nil))) db_law_recipe__law_recipe) qa_nil)))))))) qss_nil)
    (qss_one (qs_ret (qe_tup (qa_C qe_str (qa_N (qe_var 4 vo_law_recipe_one) (qa_F (qe_callTy qc_tuple_of gl_law_recipe_tuple T.b_tuple bt_tuple (qa_M (qe_comp rfl (n := 1) (fr := [0]) (N := ["k", "deck"]) (cs_mk (scX := defScope s_law_recipe) (NX := ["deck", "deep", "left", "kind", "one", "word", "two"]) rfl rfl (by decide +kernel)) (qi_range1 gl_law_recipe_range T.b_range (qa_B (qe_op qop_add qe_int (qe_call (G_law_draw.mono (by omega)) hr gl_law_recipe__law_draw T_law_draw.m T_law_draw.F.kp T_law_draw.b .nil pass0 (qa_N (qe_var 0 vo_law_recipe_deck) (qa_C qe_int qa_nil)) db_law_recipe__law_draw)) qa_nil)) (fun _ _ _ _ _ => (qgx (i := 0) (show List.Nodup (α := Str) ["k", "deck"] by decide) (locC (by decide +kernel)))) (fun _ _ _ _ _ => qi_nil) (fun _ _ _ _ _ => (qe_call (G_law_name.mono (by omega)) hr (glC (by decide +kernel)) T_law_name.m T_law_name.F.kp T_law_name.b .nil pass0 (qa_N (qe_var 1 (VarC.ok (by decide +kernel))) qa_nil) db_law_recipe__law_name))) qa_nil) nn_law_recipe_tuple db_law_recipe_tuple) qa_nil)))))))))))), ?_⟩
  walk_at "vs"
  have D0 : DeckAt (upd H l (.lst [.int (k - 1)])) d c := hD.upd _ lnin
  have B0 : But [d, c, l] H (upd H l (.lst [.int (k - 1)])) := But.set _ (by simp)
  walk_at "vs"
  intro n1 H1 a1 a2 b1 D1
  have hl1 : H1 l = some (.lst [.int (k - 1)]) := b1 l _ lnin upd_same
  have B1 : But [d, c, l] H H1 := B0.trans (b1.mono (by simp))
  walk_at "vs"
  refine ite2 (fun c1 => ?_) (fun c1 => ?_)
  rotate_left
  walk_at "vs"
  refine ite2 (fun c2 => ?_) (fun c2 => ?_)
  rotate_left
  walk_at "vs"
  refine ite2 (fun c3 => ?_) (fun c3 => ?_)
  rotate_left
  · have d1 : ¬ deep < 2 := by simpa using c1
    have d2 : ¬ k - 1 < 1 := by simpa using c2
    have hm2 : (2 : Int) ≤ ((m + 1 : Nat) : Int) := by omega
    have d3 : ¬ n1 < 2 := by simpa using c3
    walk_at "vs"
    intro x1 r1 k1 H2 g1' dp1 ⟨z1, z2, z3⟩ b2 D2 hl2 R1
    walk_at "vs"
    refine ite2 (fun c4 => ?_) (fun c4 => ?_)
    · have d4 : n1 < 7 := by simpa using c4
      obtain ⟨op, hop⟩ := five (n := n1) (by omega) d4
      walk_at "vs"
      intro p hp
      have D3 := D2.same (same_new (.lst [V.str "plus", V.str "minus", V.str "times", V.str "most", V.str "plus"]) hp)
      have hl3 := (same_new (.lst [V.str "plus", V.str "minus", V.str "times", V.str "most", V.str "plus"]) hp) l _ hl2
      walk_at "vs"
      intro x2 r2 k2 H3 g2' dp2 ⟨y1, y2, y3⟩ b3 D4 hl4 R2
      walk_at "vs"
      intro p2 hp2
      have R1' : IsR (upd H3 p2 (.tup [.str op.word, .ref x1, .ref x2])) x1 r1 := ((R1.same (same_new _ hp)).tups (deck_tups D3 hl3 b3)).same (same_new _ hp2)
      refine q p2 (.bin op r1 r2) k2 _ ⟨g1', g2'⟩ ?_ ⟨by show ((1 + r1.nodes + r2.nodes : Nat) : Int) = _; omega, by omega, by omega⟩ (B1.trans (b2.trans ((But.new _ hp).trans (b3.trans (But.new _ hp2))))) (D4.same (same_new _ hp2)) (same_new _ hp2 _ _ hl4) (.bin upd_same R1' (R2.same (same_new _ hp2)))
      show max r1.depth r2.depth + 1 ≤ m + 1
      omega
    · walk_at "vs"
      refine ite2 (fun c5 => ?_) (fun c5 => ?_)
      · walk_at "vs"
        intro x2 r2 k2 H3 g2' dp2 ⟨y1, y2, y3⟩ b3 D3 hl3 R2
        have R1' := R1.tups (deck_tups D2 hl2 b3)
        walk_at "vs"
        intro x3 r3 k3 H4 g3' dp3 ⟨u1, u2, u3⟩ b4 D4 hl4 R3
        have R1'' := R1'.tups (deck_tups D3 hl3 b4)
        have R2' := R2.tups (deck_tups D3 hl3 b4)
        walk_at "vs"
        intro p2 hp2
        refine q p2 (.pick r1 r2 r3) k3 _ ⟨g1', g2', g3'⟩ ?_ ⟨by show ((1 + r1.nodes + r2.nodes + r3.nodes : Nat) : Int) = _; omega, by omega, by omega⟩ (B1.trans (b2.trans (b3.trans (b4.trans (But.new _ hp2))))) (D4.same (same_new _ hp2)) (same_new _ hp2 _ _ hl4) (.pick upd_same (R1''.same (same_new _ hp2)) (R2'.same (same_new _ hp2)) (R3.same (same_new _ hp2)))
        show max r1.depth (max r2.depth r3.depth) + 1 ≤ m + 1
        omega
      · walk_at "vs"
        intro n2 H3 e1 e2 b3 D3
        have R1' := R1.tups (D2.tups b3)
        have lnin2 : l ∉ [d, c] := lnin
        have hl3 := b3 l _ lnin hl2
        walk_at "vs"
        intro Dd hDd
        refine comp_range (fun i σ' H' => (∃ t, σ' = t :: [some (.ref d)]) ∧ ∃ ts : List Str, H' Dd = some (.lst (ts.map V.str)) ∧ ts.length = i ∧ (∀ x ∈ ts, GName x) ∧ But [d, c] H3 H' ∧ DeckAt H' d c) ?_ ?_ ?_
        · exact ⟨⟨none, rfl⟩, [], upd_same, rfl, by simp, (But.refl _ _).upd _ hDd, D3.upd _ (D3.fresh hDd)⟩
        · intro i σ' H' hi hP
          obtain ⟨⟨t, rfl⟩, ts, e, el, ho, hb, hDk⟩ := hP
          walk_at "vs"
          intro x H4 gx b4 D4
          have hnin : Dd ∉ [d, c] := D3.fresh hDd
          have hll := b4 Dd _ hnin e
          have hz : (ts.map V.str).length < sizeLine := by rw [List.length_map]; exact small1000 (by omega)
          walk_at "vs"
          refine ⟨⟨_, rfl⟩, ts ++ [x], ?_, by rw [List.length_append, el]; rfl, ?_, (hb.trans b4).upd _ hDd, D4.upd _ hnin⟩
          · rw [List.map_append]; exact upd_same
          · intro y hy
            rcases List.mem_append.mp hy with z | z
            · exact ho y z
            · have : y = x := by simpa using z
              rw [this]; exact gx
        · intro σ' H' hP
          obtain ⟨_, ts, e, el, ho, hb, hDk⟩ := hP
          walk_at "vs"
          intro pt hpt
          have hlt := hb l _ lnin hl3
          have R1'' := (R1'.tups (D3.tups hb)).same (same_new (.tup (ts.map V.str)) hpt)
          walk_at "vs"
          intro p2 hp2
          refine q p2 (.cho r1 ts) k1 _ ⟨g1', by omega, by omega, ho⟩ ?_ ⟨by show ((1 + r1.nodes : Nat) : Int) = _; omega, by omega, by omega⟩ (B1.trans (b2.trans ((b3.mono (by simp)).trans ((hb.mono (by simp)).trans ((But.new _ hpt).trans (But.new _ hp2)))))) ((hDk.same (same_new _ hpt)).same (same_new _ hp2))
            (same_new _ hp2 _ _ (same_new _ hpt _ _ hlt)) (.cho upd_same (R1''.same (same_new _ hp2)) (same_new _ hp2 _ _ upd_same))
          show r1.depth + 1 ≤ m + 1
          omega
  all_goals
    walk_at "vs"
    intro n2 H2 e1 e2 b2 D2
    have hl2 := b2 l _ lnin hl1
    walk_at "vs"
    refine ite2 (fun c4 => ?_) (fun c4 => ?_)
    · walk_at "vs"
      intro n3 H3 g3' b3 D3
      have hl3 := b3 l _ lnin hl2
      walk_at "vs"
      intro p2 hp2
      exact q p2 (.num n3) (k - 1) _ g3' (by show 1 ≤ m + 1; omega) ⟨by show ((1 : Nat) : Int) = _; omega, by omega, by omega⟩ (B1.trans ((b2.mono (by simp)).trans ((b3.mono (by simp)).trans (But.new _ hp2)))) (D3.same (same_new _ hp2)) (same_new _ hp2 _ _ hl3) (.num upd_same)
    · walk_at "vs"
      intro x3 H3 g3' b3 D3
      have hl3 := b3 l _ lnin hl2
      walk_at "vs"
      intro p2 hp2
      exact q p2 (.rd x3) (k - 1) _ g3' (by show 1 ≤ m + 1; omega) ⟨by show ((1 : Nat) : Int) = _; omega, by omega, by omega⟩ (B1.trans ((b2.mono (by simp)).trans ((b3.mono (by simp)).trans (But.new _ hp2)))) (D3.same (same_new _ hp2)) (same_new _ hp2 _ _ hl3) (.rd upd_same)
theorem ok_law_recipe {f g1 g2 g3 : Addr} {fd gd1 gd2 gd3 : FuncData} (T_law_recipe : FnT K mg "_law_recipe" s_law_recipe ["deck", "deep", "left"] f fd)
    (T_law_draw : FnT K mg "_law_draw" s_law_draw ["deck", "many"] g1 gd1) (G_law_draw : FnOk P w K mg base CX0 1 g1 gd1 ["deck", "many"] spDraw)
    (T_law_name : FnT K mg "_law_name" s_law_name ["deck"] g2 gd2) (G_law_name : FnOk P w K mg base CX0 2 g2 gd2 ["deck"] spName)
    (T_law_number : FnT K mg "_law_number" s_law_number ["deck"] g3 gd3) (G_law_number : FnOk P w K mg base CX0 2 g3 gd3 ["deck"] spNumber) (T : Blt mg) :
    ∀ m : Nat, FnOk P w K mg base CX0 (m + 2) f fd ["deck", "deep", "left"] (spRec2 m)
  | 0 => never fun vs H Q E h => by
    obtain ⟨d, c, l, deep, k, _, _, _, _, _, h1, h2, _⟩ := h
    omega
  | m + 1 => step_law_recipe T_law_recipe T_law_draw G_law_draw T_law_name G_law_name T_law_number G_law_number (ok_law_recipe T_law_recipe T_law_draw G_law_draw T_law_name G_law_name T_law_number G_law_number T m) T
end

section
variable {P : Program} {w : World} {K : PySem.W.Frag} {mg : Str → Option Value} {base : Heap}
noncomputable abbrev s_law_deck : Stmt := top 15
theorem sc_law_deck : FnScope ["script", "cells"] ["script"] (defScope s_law_deck) := ⟨rfl, rfl, rfl, by decide +kernel, rfl, by decide +kernel, by decide +kernel⟩
theorem lo_law_deck_cells : Loc (defScope s_law_deck) "cells" := by decide +kernel
theorem gl_law_deck_list : (defScope s_law_deck).names.lookup ("list" : Str) = some NameKind.globalImplicit := by decide +kernel
theorem vo_law_deck_script : VarOk (defScope s_law_deck) "script" := by decide +kernel
theorem nn_law_deck_list : ("list" : Str) ≠ "__name__" := by decide +kernel
theorem db_law_deck_list : (("list" : Str) == ("__debug__" : Str)) = false := by decide +kernel
theorem vo_law_deck_cells : VarOk (defScope s_law_deck) "cells" := by decide +kernel
theorem gl_law_deck_len : (defScope s_law_deck).names.lookup ("len" : Str) = some NameKind.globalImplicit := by decide +kernel
theorem nn_law_deck_len : ("len" : Str) ≠ "__name__" := by decide +kernel
theorem db_law_deck_len : (("len" : Str) == ("__debug__" : Str)) = false := by decide +kernel
theorem ok_law_deck {f : Addr} {fd : FuncData} (T_law_deck : FnT K mg "_law_deck" s_law_deck ["script"] f fd) (T : Blt mg) : FnOk P w K mg base CX0 1 f fd ["script"] (spDeck K) := by
  refine T_law_deck.F.okQ sc_law_deck (fun vs H Q E h => ?_) (fun cdv A outer s H vs Q E hr h => ?_)
  · obtain ⟨a, ns, rfl, _⟩ := h
    rfl
  obtain ⟨a, ns, rfl, hS, h63, q⟩ := h
  refine ⟨_, (qss_cons (qs_set (i := 1) sc_law_deck.nd rfl lo_law_deck_cells (qe_callTy qc_list_of gl_law_deck_list T.b_list bt_list (qa_S (qe_slice qsl_list (qe_var 0 vo_law_deck_script) qo_none (qo_some qe_int)) qa_nil) nn_law_deck_list db_law_deck_list))
    (qss_cons (qs_if (qt_cmp (qop_eqD hr.units) (qe_var 1 vo_law_deck_cells) (qe_lst qa_nil) (nomarkQ _)) (qss_one (qs_set (i := 1) sc_law_deck.nd rfl lo_law_deck_cells (qe_lst (qa_C qe_int qa_nil)))) qss_nil)
    (qss_one (qs_ret (qe_lst (qa_N (qe_var 1 vo_law_deck_cells) (qa_B (qe_op qop_mod (qe_callB qc_len_seq gl_law_deck_len T.b_len bt_len (qa_N (qe_var 0 vo_law_deck_script) qa_nil) nn_law_deck_len db_law_deck_len) qe_int) (qa_C qe_int qa_nil)))))))), ?_⟩
  have hcut := cut63 h63
  walk_at "vs"
  intro p hp
  rw [hcut]
  walk_at "vs"
  intro c hc
  walk_at "vs"
  intro e he
  have s1 := same_new (.lst (ns.map V.int)) hp
  have s2 := same_new (.lst (ns.map V.int)) hc
  have s3 := same_new (.lst []) he
  have hc3 : upd (upd (upd H p (.lst (ns.map V.int))) c (.lst (ns.map V.int))) e (.lst []) c = some (.lst (ns.map V.int)) := s3 _ _ upd_same
  have hS3 := s3.seq (s2.seq (s1.seq hS))
  have hcH : H c = none := s1.free hc
  refine ⟨.list (ns.map .int), .list ([].map .int), .lst (SqL.of hc3) (datVs_ints ns), .lst (SqL.of upd_same) .nil, shaped_ints ns, shaped_ints [], ?_⟩
  cases ns with
  | nil =>
    walk_at "vs"
    intro c' hc'
    have s4 := same_new (.lst [V.int 0]) hc'
    have hS4 := s4.seq hS3
    walk_at "vs"
    intro d hd
    refine q d c' _ (s1.trans (s2.trans (s3.trans (s4.trans (same_new _ hd))))) (s1.free (s2.free (s3.free (s4.free hd)))) (s1.free (s2.free (s3.free hc'))) ⟨[0], _, _, ?_, upd_same, ?_, by simp, by decide, by decide⟩
    · exact fun z => by rw [z, upd_same] at hd; cases hd
    · exact same_new _ hd _ _ upd_same
  | cons n r =>
    walk_at "vs"
    intro d hd
    refine q d c _ (s1.trans (s2.trans (s3.trans (same_new _ hd)))) (s1.free (s2.free (s3.free hd))) hcH ⟨n :: r, _, _, ?_, upd_same, ?_, by simp, h63, by decide⟩
    · exact fun z => by rw [z, hc3] at hd; cases hd
    · exact same_new _ hd _ _ hc3
end

section
variable {P : Program} {w : World} {K : PySem.W.Frag} {mg : Str → Option Value} {base : Heap}
noncomputable abbrev s_law_is_name : Stmt := top 20
theorem sc_law_is_name : FnScope ["thing"] ["thing"] (defScope s_law_is_name) := ⟨rfl, rfl, rfl, by decide +kernel, rfl, by decide +kernel, by decide +kernel⟩
theorem gl_law_is_name_len : (defScope s_law_is_name).names.lookup ("len" : Str) = some NameKind.globalImplicit := by decide +kernel
theorem vo_law_is_name_thing : VarOk (defScope s_law_is_name) "thing" := by decide +kernel
theorem nn_law_is_name_len : ("len" : Str) ≠ "__name__" := by decide +kernel
theorem db_law_is_name_len : (("len" : Str) == ("__debug__" : Str)) = false := by decide +kernel
theorem gl_law_is_name_isinstance : (defScope s_law_is_name).names.lookup ("isinstance" : Str) = some NameKind.globalImplicit := by decide +kernel
theorem gl_law_is_name_str : (defScope s_law_is_name).names.lookup ("str" : Str) = some NameKind.globalImplicit := by decide +kernel
theorem nn_law_is_name_str : ("str" : Str) ≠ "__name__" := by decide +kernel
theorem db_law_is_name_str : (("str" : Str) == ("__debug__" : Str)) = false := by decide +kernel
theorem nn_law_is_name_isinstance : ("isinstance" : Str) ≠ "__name__" := by decide +kernel
theorem db_law_is_name_isinstance : (("isinstance" : Str) == ("__debug__" : Str)) = false := by decide +kernel
theorem ok_law_is_name {f : Addr} {fd : FuncData} (T_law_is_name : FnT K mg "_law_is_name" s_law_is_name ["thing"] f fd) (T : Blt mg) (kd : Kinds K) : FnOk P w K mg base CX0 1 f fd ["thing"] (spLNameT K) := by
  refine T_law_is_name.F.okQ sc_law_is_name (fun vs H Q E h => ?_) (fun cdv A outer s H vs Q E hr h => ?_)
  · obtain ⟨v, t, rfl, _⟩ := h
    rfl
  obtain ⟨v, t, rfl, ht, hasc, q⟩ := h
  refine ⟨_, (qss_cons (qs_if (qt_w (qw_or (qt_not (qt_val (qe_callB qc_isi gl_law_is_name_isinstance T.b_isinstance bt_isinstance (qa_N (qe_var 0 vo_law_is_name_thing) (qa_N (qe_bltn (v := .ty "str") gl_law_is_name_str T.b_str bt_str rfl nn_law_is_name_str db_law_is_name_str) qa_nil)) nn_law_is_name_isinstance db_law_is_name_isinstance))) (qw_or1 (qt_not (qt_chain qop_le qop_le qe_int (qe_callB qc_len_str gl_law_is_name_len T.b_len bt_len (qa_N (qe_var 0 vo_law_is_name_thing) qa_nil) nn_law_is_name_len db_law_is_name_len) qe_int))))) (qss_one (qs_ret qe_bl)) qss_nil)
    (qss_one (qs_ret (qe_cmp (qop_eqD hr.units) (qe_comp rfl (n := 1) (fr := []) (N := ["sign"]) (cs_mk (scX := defScope s_law_is_name) (NX := ["thing"]) rfl rfl (by decide +kernel)) (qi_str (qe_var 0 vo_law_is_name_thing)) (fun _ _ _ _ _ => (qgx (i := 0) (show List.Nodup (α := Str) ["sign"] by decide) (locC (by decide +kernel)))) (fun _ _ _ _ _ => (qi_one (qt_not (qt_chain qop_le_str qop_le_str qe_str (qe_var 0 (VarC.ok (by decide +kernel))) qe_str)))) (fun _ _ _ _ _ => (qe_var 0 (VarC.ok (by decide +kernel))))) (qe_lst qa_nil) (nomarkQ _))))), ?_⟩
  have h1 := ht.ty
  have h2 := ht.isi kd (c := "str") (by simp [tys])
  cases ht with
  | non => walk_at "vs"; exact q _ (Same.refl _)
  | bl b => walk_at "vs"; exact q _ (Same.refl _)
  | int i => walk_at "vs"; exact q _ (Same.refl _)
  | tup _ _ => walk_at "vs"; exact q _ (Same.refl _)
  | oth h hT k => rcases hT with rfl | rfl <;> (walk_at "vs"; exact q _ (Same.refl _))
  | str x =>
    obtain ⟨hl, h128⟩ := hasc.text
    have q : ∀ H', Same H H' → Q (.bl (decide (GName x))) H' := q
    have hl' : x.length ≤ sizeLine := Nat.le_of_lt (small1000 hl)
    have hxl : x.cps.toList.length = x.length := by simp [Str.length]
    walk_at "vs"
    refine ite2 (fun c1 => ?_) (fun c1 => ?_)
    · have c1' : 1 ≤ (x.length : Int) := by simpa using c1
      walk_at "vs"
      refine ite2 (fun c2 => ?_) (fun c2 => ?_)
      · have c2' : ¬ (x.length : Int) ≤ 8 := by simpa using c2
        walk_at "vs"
        rw [decide_eq_false fun g : GName x => c2' (by have := g.2.1; omega)] at q
        exact q _ (Same.refl _)
      · have c2' : (x.length : Int) ≤ 8 := by simpa using c2
        walk_at "vs"
        intro D hD
        refine comp_str (fun i σ' H' => Wr ((∃ z, σ' = [z]) ∧ Same H H' ∧ H' D = some (.lst ((((x.cps.toList.take i).filter fun c => !decide (isLow c)).map fun c => (⟨#[c]⟩ : Str)).map V.str)))) ?_ ?_ ?_
        · exact .mk ⟨⟨none, rfl⟩, same_new _ hD, upd_same⟩
        · intro i c σ' H' hi hP
          obtain ⟨⟨z, rfl⟩, hs, hd⟩ := hP.h
          have hi' : x.cps.toList[i]? = some c := by simpa using hi
          have hz : ((((x.cps.toList.take i).filter fun c => !decide (isLow c)).map fun c => (⟨#[c]⟩ : Str)).map V.str).length < sizeLine := by
            rw [List.length_map, List.length_map]
            refine small1000 (Nat.le_trans (List.length_filter_le _ _) ?_)
            rw [List.length_take]; omega
          have app : ¬ isLow c → Wr ((∃ z', [z].set 0 (some (V.str ⟨#[c]⟩)) = [z']) ∧ Same H (upd H' D (.lst (((((x.cps.toList.take i).filter fun c => !decide (isLow c)).map fun c => (⟨#[c]⟩ : Str)).map V.str) ++ [V.str ⟨#[c]⟩]))) ∧
              upd H' D (.lst (((((x.cps.toList.take i).filter fun c => !decide (isLow c)).map fun c => (⟨#[c]⟩ : Str)).map V.str) ++ [V.str ⟨#[c]⟩])) D = some (.lst ((((x.cps.toList.take (i + 1)).filter fun c => !decide (isLow c)).map fun c => (⟨#[c]⟩ : Str)).map V.str))) := fun hno => by
            refine .mk ⟨⟨_, rfl⟩, same_updN _ hD hs, ?_⟩
            rw [upd_same, filter_snoc _ hi', if_pos (by simpa using hno), List.map_append, List.map_append]
            rfl
          walk_at "vs"
          rw [a97, le_one]
          refine ite2 (fun d1 => ?_) (fun d1 => ?_)
          · have d1' : ¬ c < 97 := by simpa using d1
            walk_at "vs"
            rw [z122, le_one]
            refine ite2 (fun d2 => ?_) (fun d2 => ?_)
            · have d2' : 122 < c := by simpa using d2
              walk_at "vs"
              exact app (by unfold isLow; omega)
            · have d2' : ¬ 122 < c := by simpa using d2
              refine .mk ⟨⟨_, rfl⟩, hs, ?_⟩
              have hlow : isLow c := by unfold isLow; omega
              rw [hd, filter_snoc _ hi', if_neg (by simp [hlow]), List.append_nil]
          · have d1' : c < 97 := by simpa using d1
            walk_at "vs"
            exact app (by unfold isLow; omega)
        · intro σ' H' hP
          obtain ⟨_, hs, hd⟩ := hP.h
          walk_at "vs"
          intro p hp
          have hd' := same_new (.lst []) hp _ _ hd
          refine ⟨.list ((((x.cps.toList.take x.cps.size).filter fun c => !decide (isLow c)).map fun c => (⟨#[c]⟩ : Str)).map PyData.str), .list [], .lst (SqL.of hd') (datVs_strs _), .lst (SqL.of upd_same) .nil, shaped_ones ?_, shaped_ints [], ?_⟩
          · intro c hc
            exact h128 c (List.mem_of_mem_take (List.mem_filter.mp hc).1)
          · show Q (.bl (PyData.eqv _ _)) _
            rw [eqv_nil, List.isEmpty_map, List.isEmpty_map, List.take_of_length_le (by simp), ← name_filter (by omega) (by omega)]
            exact q _ (hs.trans (same_new _ hp))
    · have c1' : ¬ 1 ≤ (x.length : Int) := by simpa using c1
      walk_at "vs"
      rw [decide_eq_false fun g : GName x => c1' (by have := g.1; omega)] at q
      exact q _ (Same.refl _)
end

section
variable {P : Program} {w : World} {K : PySem.W.Frag} {mg : Str → Option Value} {base : Heap}
theorem eqV_int (a b : Int) : eqV (.int a) (.int b) = decide (a = b) := by
  show (a == b) = _
  rw [Bool.eq_iff_iff]; simp
theorem in234 {n : Nat} (h : n = 2 ∨ n = 3 ∨ n = 4) : inV (.int n) [.int 2, .int 3, .int 4] = true := by
  rcases h with rfl | rfl | rfl <;> decide +kernel
theorem notin234 {n : Nat} (h : ¬ (n = 2 ∨ n = 3 ∨ n = 4)) : inV (.int n) [.int 2, .int 3, .int 4] = false := by
  unfold inV
  simp only [List.any_cons, List.any_nil, eqV_int, Bool.or_false, Bool.or_eq_false_iff, decide_eq_false_iff_not]
  omega
theorem eqV_str (a b : Str) : eqV (.str a) (.str b) = decide (a = b) := by
  show (a == b) = _
  rw [Bool.eq_iff_iff]; simp
theorem notin4 {k : Str} (h : ¬ (k = "plus" ∨ k = "minus" ∨ k = "times" ∨ k = "most")) : inV (.str k) [.str "plus", .str "minus", .str "times", .str "most"] = false := by
  unfold inV
  simp only [List.any_cons, List.any_nil, eqV_str, Bool.or_false, Bool.or_eq_false_iff, decide_eq_false_iff_not]
  exact ⟨fun z => h (.inl z.symm), fun z => h (.inr (.inl z.symm)), fun z => h (.inr (.inr (.inl z.symm))), fun z => h (.inr (.inr (.inr z.symm)))⟩
theorem shape_lens {ts : List Th} (h : ¬ (ts.length = 2 ∨ ts.length = 3 ∨ ts.length = 4)) : shapeT (.tup ts) = none := by
  rcases ts with _ | ⟨a, _ | ⟨b, _ | ⟨c, _ | ⟨d, _ | ⟨e, r⟩⟩⟩⟩⟩
  · rfl
  · cases a <;> rfl
  · simp at h
  · simp at h
  · simp at h
  · cases a <;> rfl
theorem shape_nostr {t : Th} {ts : List Th} (h : ∀ k, t ≠ .str k) : shapeT (.tup (t :: ts)) = none := by
  cases t with
  | str k => exact absurd rfl (h k)
  | _ => rcases ts with _ | ⟨b, _ | ⟨c, _ | ⟨d, _ | ⟨e, r⟩⟩⟩⟩ <;> rfl
theorem spots_none {H0 H : Hp} {o : Option (List Th)} (h : o = none) : SpotsIs H0 H o .non := by subst h; rfl
theorem spots_some {H0 H : Hp} {o : Option (List Th)} {ks : List Th} {p : Addr} (h : o = some ks) (f : H0 p = none) (e : H p = some (.lst (idxs ks.length))) : SpotsIs H0 H o (.ref p) := by subst h; exact ⟨p, rfl, f, e⟩
noncomputable abbrev s_law_spots : Stmt := top 21
theorem sc_law_spots : FnScope ["thing"] ["thing"] (defScope s_law_spots) := ⟨rfl, rfl, rfl, by decide +kernel, rfl, by decide +kernel, by decide +kernel⟩
theorem gl_law_spots_isinstance : (defScope s_law_spots).names.lookup ("isinstance" : Str) = some NameKind.globalImplicit := by decide +kernel
theorem gl_law_spots_str : (defScope s_law_spots).names.lookup ("str" : Str) = some NameKind.globalImplicit := by decide +kernel
theorem nn_law_spots_str : ("str" : Str) ≠ "__name__" := by decide +kernel
theorem db_law_spots_str : (("str" : Str) == ("__debug__" : Str)) = false := by decide +kernel
theorem vo_law_spots_thing : VarOk (defScope s_law_spots) "thing" := by decide +kernel
theorem nn_law_spots_isinstance : ("isinstance" : Str) ≠ "__name__" := by decide +kernel
theorem db_law_spots_isinstance : (("isinstance" : Str) == ("__debug__" : Str)) = false := by decide +kernel
theorem gl_law_spots_len : (defScope s_law_spots).names.lookup ("len" : Str) = some NameKind.globalImplicit := by decide +kernel
theorem nn_law_spots_len : ("len" : Str) ≠ "__name__" := by decide +kernel
theorem db_law_spots_len : (("len" : Str) == ("__debug__" : Str)) = false := by decide +kernel
theorem gl_law_spots_tuple : (defScope s_law_spots).names.lookup ("tuple" : Str) = some NameKind.globalImplicit := by decide +kernel
theorem nn_law_spots_tuple : ("tuple" : Str) ≠ "__name__" := by decide +kernel
theorem db_law_spots_tuple : (("tuple" : Str) == ("__debug__" : Str)) = false := by decide +kernel
theorem gl_law_spots_int : (defScope s_law_spots).names.lookup ("int" : Str) = some NameKind.globalImplicit := by decide +kernel
theorem gl_law_spots_bool : (defScope s_law_spots).names.lookup ("bool" : Str) = some NameKind.globalImplicit := by decide +kernel
theorem nn_law_spots_bool : ("bool" : Str) ≠ "__name__" := by decide +kernel
theorem db_law_spots_bool : (("bool" : Str) == ("__debug__" : Str)) = false := by decide +kernel
theorem nn_law_spots_int : ("int" : Str) ≠ "__name__" := by decide +kernel
theorem db_law_spots_int : (("int" : Str) == ("__debug__" : Str)) = false := by decide +kernel
theorem gl_law_spots__law_is_name : (defScope s_law_spots).names.lookup ("_law_is_name" : Str) = some NameKind.globalImplicit := by decide +kernel
theorem db_law_spots__law_is_name : (("_law_is_name" : Str) == ("__debug__" : Str)) = false := by decide +kernel
theorem ok_law_spots {f g1 : Addr} {fd gd1 : FuncData} (T_law_spots : FnT K mg "_law_spots" s_law_spots ["thing"] f fd)
    (T_law_is_name : FnT K mg "_law_is_name" s_law_is_name ["thing"] g1 gd1) (G_law_is_name : FnOk P w K mg base CX0 1 g1 gd1 ["thing"] (spLNameT K))
    (T : Blt mg) (kd : Kinds K) : FnOk P w K mg base CX0 2 f fd ["thing"] (spSpotsT K) := by
  refine T_law_spots.F.okQ sc_law_spots (fun vs H Q E h => ?_) (fun cdv A outer s H vs Q E hr h => ?_)
  · obtain ⟨v, t, rfl, _⟩ := h
    rfl
  obtain ⟨v, t, rfl, ht, hasc, q⟩ := h
  refine ⟨_, (qss_cons (qs_if (qt_w (qw_or (qt_not (qt_val (qe_callB qc_isi gl_law_spots_isinstance T.b_isinstance bt_isinstance (qa_N (qe_var 0 vo_law_spots_thing) (qa_N (qe_bltn (v := .ty "tuple") gl_law_spots_tuple T.b_tuple bt_tuple rfl nn_law_spots_tuple db_law_spots_tuple) qa_nil)) nn_law_spots_isinstance db_law_spots_isinstance))) (qw_or (qt_cmp qop_notIn_seq (qe_callB qc_len_seq gl_law_spots_len T.b_len bt_len (qa_N (qe_var 0 vo_law_spots_thing) qa_nil) nn_law_spots_len db_law_spots_len) (qe_lst (qa_C qe_int (qa_C qe_int (qa_C qe_int qa_nil)))) rfl) (qw_or1 (qt_not (qt_val (qe_callB qc_isi gl_law_spots_isinstance T.b_isinstance bt_isinstance (qa_S (qe_ix qix_tup (qe_var 0 vo_law_spots_thing) qe_int) (qa_N (qe_bltn (v := .ty "str") gl_law_spots_str T.b_str bt_str rfl nn_law_spots_str db_law_spots_str) qa_nil)) nn_law_spots_isinstance db_law_spots_isinstance))))))) (qss_one (qs_ret qe_non)) qss_nil)
    (qss_cons (qs_if (qt_w (qw_and (qt_cmp qop_eq (qe_callB qc_len_seq gl_law_spots_len T.b_len bt_len (qa_N (qe_var 0 vo_law_spots_thing) qa_nil) nn_law_spots_len db_law_spots_len) qe_int (nomarkQ _)) (qw_and1 (qt_cmp qop_eq (qe_ix qix_tup (qe_var 0 vo_law_spots_thing) qe_int) qe_str (nomarkQ _))))) (qss_one (qs_ret (qe_ix qix_list (qe_lst (qa_C qe_non (qa_L (qe_lst qa_nil) qa_nil))) (qe_callTy qc_intB gl_law_spots_int T.b_int bt_int (qa_O (qe_and (qe_callB qc_isi gl_law_spots_isinstance T.b_isinstance bt_isinstance (qa_S (qe_ix qix_tup (qe_var 0 vo_law_spots_thing) qe_int) (qa_N (qe_bltn (v := .ty "int") gl_law_spots_int T.b_int bt_int rfl nn_law_spots_int db_law_spots_int) qa_nil)) nn_law_spots_isinstance db_law_spots_isinstance) (qe_one (qe_not (qe_callB qc_isi gl_law_spots_isinstance T.b_isinstance bt_isinstance (qa_S (qe_ix qix_tup (qe_var 0 vo_law_spots_thing) qe_int) (qa_N (qe_bltn (v := .ty "bool") gl_law_spots_bool T.b_bool bt_bool rfl nn_law_spots_bool db_law_spots_bool) qa_nil)) nn_law_spots_isinstance db_law_spots_isinstance)))) qa_nil) nn_law_spots_int db_law_spots_int)))) qss_nil)
    (qss_cons (qs_if (qt_w (qw_and (qt_cmp qop_eq (qe_callB qc_len_seq gl_law_spots_len T.b_len bt_len (qa_N (qe_var 0 vo_law_spots_thing) qa_nil) nn_law_spots_len db_law_spots_len) qe_int (nomarkQ _)) (qw_and1 (qt_cmp qop_eq (qe_ix qix_tup (qe_var 0 vo_law_spots_thing) qe_int) qe_str (nomarkQ _))))) (qss_one (qs_ret (qe_ix qix_list (qe_lst (qa_C qe_non (qa_L (qe_lst qa_nil) qa_nil))) (qe_callTy qc_intB gl_law_spots_int T.b_int bt_int (qa_F (qe_call (G_law_is_name.mono (by omega)) hr gl_law_spots__law_is_name T_law_is_name.m T_law_is_name.F.kp T_law_is_name.b .nil pass0 (qa_S (qe_ix qix_tup (qe_var 0 vo_law_spots_thing) qe_int) qa_nil) db_law_spots__law_is_name) qa_nil) nn_law_spots_int db_law_spots_int)))) qss_nil)
    (qss_cons (qs_if (qt_w (qw_and (qt_cmp qop_eq (qe_callB qc_len_seq gl_law_spots_len T.b_len bt_len (qa_N (qe_var 0 vo_law_spots_thing) qa_nil) nn_law_spots_len db_law_spots_len) qe_int (nomarkQ _)) (qw_and1 (qt_cmp qop_in_seq (qe_ix qix_tup (qe_var 0 vo_law_spots_thing) qe_int) (qe_lst (qa_C qe_str (qa_C qe_str (qa_C qe_str (qa_C qe_str qa_nil))))) rfl)))) (qss_one (qs_ret (qe_lst (qa_C qe_int (qa_C qe_int qa_nil))))) qss_nil)
    (qss_cons (qs_if (qt_w (qw_and (qt_cmp qop_eq (qe_callB qc_len_seq gl_law_spots_len T.b_len bt_len (qa_N (qe_var 0 vo_law_spots_thing) qa_nil) nn_law_spots_len db_law_spots_len) qe_int (nomarkQ _)) (qw_and1 (qt_cmp qop_eq (qe_ix qix_tup (qe_var 0 vo_law_spots_thing) qe_int) qe_str (nomarkQ _))))) (qss_one (qs_ret (qe_lst (qa_C qe_int (qa_C qe_int (qa_C qe_int qa_nil)))))) qss_nil)
    (qss_cons (qs_if (qt_w (qw_and (qt_cmp qop_eq (qe_callB qc_len_seq gl_law_spots_len T.b_len bt_len (qa_N (qe_var 0 vo_law_spots_thing) qa_nil) nn_law_spots_len db_law_spots_len) qe_int (nomarkQ _)) (qw_and (qt_cmp qop_eq (qe_ix qix_tup (qe_var 0 vo_law_spots_thing) qe_int) qe_str (nomarkQ _)) (qw_and (qt_val (qe_callB qc_isi gl_law_spots_isinstance T.b_isinstance bt_isinstance (qa_S (qe_ix qix_tup (qe_var 0 vo_law_spots_thing) qe_int) (qa_N (qe_bltn (v := .ty "tuple") gl_law_spots_tuple T.b_tuple bt_tuple rfl nn_law_spots_tuple db_law_spots_tuple) qa_nil)) nn_law_spots_isinstance db_law_spots_isinstance)) (qw_and1 (qt_chain qop_le qop_le qe_int (qe_callB qc_len_seq gl_law_spots_len T.b_len bt_len (qa_S (qe_ix qix_tup (qe_var 0 vo_law_spots_thing) qe_int) qa_nil) nn_law_spots_len db_law_spots_len) qe_int)))))) (qss_one (qs_ret (qe_ix qix_list (qe_lst (qa_C qe_non (qa_L (qe_lst (qa_C qe_int qa_nil)) qa_nil))) (qe_callTy qc_intB gl_law_spots_int T.b_int bt_int (qa_K (qe_cmp (qop_eqNil hr.units) (qe_comp rfl (n := 1) (fr := []) (N := ["name"]) (cs_mk (scX := defScope s_law_spots) (NX := ["thing"]) rfl rfl (by decide +kernel)) (qi_tup (qe_ix qix_tup (qe_var 0 vo_law_spots_thing) qe_int)) (fun _ _ _ _ _ => (qgx (i := 0) (show List.Nodup (α := Str) ["name"] by decide) (locC (by decide +kernel)))) (fun _ _ _ _ _ => (qi_one (qt_not (qt_val (qe_call (G_law_is_name.mono (by omega)) hr (glC (by decide +kernel)) T_law_is_name.m T_law_is_name.F.kp T_law_is_name.b .nil pass0 (qa_N (qe_var 0 (VarC.ok (by decide +kernel))) qa_nil) db_law_spots__law_is_name))))) (fun _ _ _ _ _ => (qe_var 0 (VarC.ok (by decide +kernel))))) (qe_lst qa_nil) (nomarkQ _)) qa_nil) nn_law_spots_int db_law_spots_int)))) qss_nil)
    (qss_one (qs_ret qe_non)))))))), ?_⟩
  have h1 := ht.ty
  have h2 := ht.isi kd (c := "tuple") (by simp [tys])
  walk_at "vs"
  cases ht with
  | non => exact q _ _ (Same.refl _) rfl
  | bl b => exact q _ _ (Same.refl _) rfl
  | int i => exact q _ _ (Same.refl _) rfl
  | str x => exact q _ _ (Same.refl _) rfl
  | oth h hT k => rcases hT with rfl | rfl <;> exact q _ _ (Same.refl _) rfl
  | @tup a ws ts e h =>
    clear h1 h2
    have hl := h.length
    walk_at "vs"
    intro p hp
    have S1 := same_new (.lst [.int 2, .int 3, .int 4]) hp
    have e := S1 _ _ e
    have h := h.same S1
    walk_at "vs"
    by_cases hn : ws.length = 2 ∨ ws.length = 3 ∨ ws.length = 4
    rotate_left
    · refine itB_t (show (!inV (.int ws.length) [.int 2, .int 3, .int 4]) = true by rw [notin234 hn]; rfl) ?_
      walk_at "vs"
      exact q _ _ S1 (spots_none (shape_lens (by rw [← hl]; exact hn)))
    refine itB_f (show (!inV (.int ws.length) [.int 2, .int 3, .int 4]) = false by rw [in234 hn]; rfl) ?_
    cases h with
    | nil => simp at hn
    | @cons x tx vs ts hx hr' =>
      have h3 := hx.ty
      have h4 := hx.isi kd (c := "str") (by simp [tys])
      have at0 : atI (x :: vs) 0 = some x := atI_nat (j := 0) rfl
      walk_at "vs"
      cases hx with
      | non => exact q _ _ S1 (spots_none (shape_nostr fun _ z => by cases z))
      | bl b => exact q _ _ S1 (spots_none (shape_nostr fun _ z => by cases z))
      | int i => exact q _ _ S1 (spots_none (shape_nostr fun _ z => by cases z))
      | tup _ _ => exact q _ _ S1 (spots_none (shape_nostr fun _ z => by cases z))
      | oth h hT k => rcases hT with rfl | rfl <;> exact q _ _ S1 (spots_none (shape_nostr fun _ z => by cases z))
      | str k =>
        clear h3 h4
        cases hr' with
        | nil => simp at hn
        | @cons v1 t1 vs1 ts1 hv1 hr1 =>
          have ha1 := hasc.of t1 (by simp)
          have at1 : atI (V.str k :: v1 :: vs1) 1 = some v1 := atI_nat (j := 1) rfl
          cases hr1 with
          | nil =>
            walk_at "vs"
            refine ite2 (fun c1 => ?_) (fun c1 => ?_)
            · have hk : k = "number" := V.str.inj (of_decide_eq_true c1)
              subst hk
              walk_at "vs"
              intro p2 hp2
              have S2 := same_new (.lst []) hp2
              have e := S2 _ _ e
              have hv1 := hv1.same S2
              walk_at "vs"
              intro p3 hp3
              have S3 := same_new (.lst [.non, .ref p2]) hp3
              have e := S3 _ _ e
              have hv1 := hv1.same S3
              have e2 := S3 _ _ (upd_same (a := p2) (o := .lst []))
              have SS := S1.trans (S2.trans S3)
              have h5 := hv1.ty
              have h6 := hv1.isi kd (c := "int") (by simp [tys])
              have h7 := hv1.isi kd (c := "bool") (by simp [tys])
              have at2 : atI [V.non, V.ref p2] 0 = some .non := atI_nat (j := 0) rfl
              have at3 : atI [V.non, V.ref p2] 1 = some (.ref p2) := atI_nat (j := 1) rfl
              cases hv1 with
              | int i => walk_at "vs"; exact q _ _ SS (spots_some (shape_num _) (S1.free hp2) e2)
              | bl b => walk_at "vs"; exact q _ _ SS (spots_none (shape_num _))
              | non => walk_at "vs"; exact q _ _ SS (spots_none (shape_num _))
              | str x => walk_at "vs"; exact q _ _ SS (spots_none (shape_num _))
              | tup _ _ => walk_at "vs"; exact q _ _ SS (spots_none (shape_num _))
              | oth h hT k => rcases hT with rfl | rfl <;> (walk_at "vs"; exact q _ _ SS (spots_none (shape_num _)))
            · walk_at "vs"
              refine ite2 (fun c2 => ?_) (fun c2 => ?_)
              · have hk : k = "read" := V.str.inj (of_decide_eq_true c2)
                subst hk
                walk_at "vs"
                intro p2 hp2
                have S2 := same_new (.lst []) hp2
                have e := S2 _ _ e
                have hv1 := hv1.same S2
                walk_at "vs"
                intro p3 hp3
                have S3 := same_new (.lst [.non, .ref p2]) hp3
                have e := S3 _ _ e
                have hv1 := hv1.same S3
                have e2 := S3 _ _ (upd_same (a := p2) (o := .lst []))
                have e3 := upd_same (H := upd (upd H p (.lst [.int 2, .int 3, .int 4])) p2 (.lst [])) (a := p3) (o := .lst [.non, .ref p2])
                have at2 : atI [V.non, V.ref p2] 0 = some .non := atI_nat (j := 0) rfl
                have at3 : atI [V.non, V.ref p2] 1 = some (.ref p2) := atI_nat (j := 1) rfl
                walk_at "vs"
                intro H5 S5
                have SS := (S1.trans (S2.trans S3)).trans S5
                have e2 := S5 _ _ e2
                have e3 := S5 _ _ e3
                cases hn1 : nameT t1 with
                | true => walk_at "vs"; exact q _ _ SS (spots_some ((shape_rd _).trans (if_pos hn1)) (S1.free hp2) e2)
                | false => walk_at "vs"; exact q _ _ SS (spots_none ((shape_rd _).trans (if_neg (by rw [hn1]; decide))))
              · walk_at "vs"
                refine q _ _ S1 (spots_none ?_)
                rw [shape2, if_neg (fun z => c1 (decide_eq_true (congrArg V.str z))), if_neg (fun z => c2 (decide_eq_true (congrArg V.str z)))]
          | @cons v2 t2 vs2 ts2 hv2 hr2 =>
            have ha2 := hasc.of t2 (by simp)
            have at2 : atI (V.str k :: v1 :: v2 :: vs2) 2 = some v2 := atI_nat (j := 2) rfl
            cases hr2 with
            | nil =>
              walk_at "vs"
              intro p2 hp2
              have S2 := same_new (.lst [.str "plus", .str "minus", .str "times", .str "most"]) hp2
              have e := S2 _ _ e
              have hv2 := hv2.same S2
              walk_at "vs"
              by_cases hop : k = "plus" ∨ k = "minus" ∨ k = "times" ∨ k = "most"
              · refine itB_t (by rcases hop with rfl | rfl | rfl | rfl <;> decide +kernel) ?_
                walk_at "vs"
                intro p3 hp3
                exact q _ _ ((S1.trans S2).trans (same_new _ hp3)) (spots_some (shape_op hop _ _) ((S1.trans S2).free hp3) upd_same)
              · refine itB_f (notin4 hop) ?_
                walk_at "vs"
                refine ite2 (fun c1 => ?_) (fun c1 => ?_)
                · have hk : k = "choose" := V.str.inj (of_decide_eq_true c1)
                  subst hk
                  have h5 := hv2.ty
                  have h6 := hv2.isi kd (c := "tuple") (by simp [tys])
                  walk_at "vs"
                  cases hv2 with
                  | int i => exact q _ _ (S1.trans S2) (spots_none (shape_cho _ _))
                  | bl b => exact q _ _ (S1.trans S2) (spots_none (shape_cho _ _))
                  | non => exact q _ _ (S1.trans S2) (spots_none (shape_cho _ _))
                  | str x => exact q _ _ (S1.trans S2) (spots_none (shape_cho _ _))
                  | oth h hT k => rcases hT with rfl | rfl <;> exact q _ _ (S1.trans S2) (spots_none (shape_cho _ _))
                  | @tup b zs tz e2 hz =>
                    clear h5 h6
                    have hzl := hz.length
                    walk_at "vs"
                    refine ite2 (fun d1 => ?_) (fun d1 => ?_)
                    · have d1' : 1 ≤ (zs.length : Int) := by simpa using d1
                      walk_at "vs"
                      refine ite2 (fun d2 => ?_) (fun d2 => ?_)
                      · have d2' : (zs.length : Int) ≤ 9 := by simpa using d2
                        walk_at "vs"
                        intro p3 hp3
                        have S3 := same_new (.lst [.int 1]) hp3
                        have e2 := S3 _ _ e2
                        have e := S3 _ _ e
                        walk_at "vs"
                        intro p4 hp4
                        have S4 := same_new (.lst [.non, .ref p3]) hp4
                        have e2 := S4 _ _ e2
                        have e := S4 _ _ e
                        have e3 := S4 _ _ upd_same
                        have e4 := upd_same (H := upd (upd (upd H p (.lst [.int 2, .int 3, .int 4])) p2 (.lst [.str "plus", .str "minus", .str "times", .str "most"])) p3 (.lst [.int 1])) (a := p4) (o := .lst [.non, .ref p3])
                        have hz := hz.same (S3.trans S4)
                        have SS := (S1.trans S2).trans (S3.trans S4)
                        have fr3 := (S1.trans S2).free hp3
                        clear S1 S2 S3 S4
                        generalize upd (upd (upd (upd H p (.lst [.int 2, .int 3, .int 4])) p2 (.lst [.str "plus", .str "minus", .str "times", .str "most"])) p3 (.lst [.int 1])) p4 (.lst [.non, .ref p3]) = H4 at e e2 e3 e4 hz SS ⊢
                        walk_at "vs"
                        intro D hD
                        refine comp_tup (xs := zs) (fun i σ' H' => Wr ((∃ z, σ' = [z]) ∧ Same H4 H' ∧ ∃ bs, H' D = some (.lst bs) ∧ bs.isEmpty = (tz.take i).all nameT ∧ bs.length ≤ i)) ?_ ?_ ?_ ?_
                        · exact .mk ⟨⟨none, rfl⟩, same_new _ hD, [], upd_same, rfl, Nat.le_refl _⟩
                        · intro i σ' H' _ hP
                          exact SqT.of (hP.h.2.1 _ _ e2)
                        · intro i x σ' H' hi hP
                          obtain ⟨⟨z, rfl⟩, hs, bs, hd, hb, hbl⟩ := hP.h
                          obtain ⟨tx, htx, hx⟩ := hz.get hi
                          have hx' := hx.same hs
                          have hax := ha2.of tx (List.mem_of_getElem? htx)
                          have hi9 : i < zs.length := (List.getElem?_eq_some_iff.mp hi).1
                          have hz9 : bs.length < sizeLine := small1000 (by omega)
                          walk_at "vs"
                          intro H5 s5
                          have hd5 := s5 _ _ hd
                          cases hnx : nameT tx with
                          | true =>
                            walk_at "vs"
                            exact .mk ⟨⟨_, rfl⟩, hs.trans s5, bs, hd5, by rw [List.take_succ, htx, List.all_append, ← hb]; simp [hnx], by omega⟩
                          | false =>
                            walk_at "vs"
                            exact .mk ⟨⟨_, rfl⟩, same_updN _ hD (hs.trans s5), bs ++ [x], upd_same, by rw [List.take_succ, htx, List.all_append]; simp [hnx], by simp; omega⟩
                        · intro σ' H' hP
                          obtain ⟨_, hs, bs, hd, hb, _⟩ := hP.h
                          rw [hzl, List.take_length] at hb
                          obtain ⟨y, hy, hyy⟩ : ∃ y, atI [V.non, V.ref p3] (if bs.isEmpty = true then 1 else 0) = some y ∧ (if bs.isEmpty = true then y = .ref p3 else y = .non) := by
                            cases bs.isEmpty with
                            | true => exact ⟨_, atI_nat (j := 1) rfl, rfl⟩
                            | false => exact ⟨_, atI_nat (j := 0) rfl, rfl⟩
                          walk_at "vs"
                          intro p5 hp5
                          have S5 := same_new (.lst []) hp5
                          have hd' := S5 _ _ hd
                          have e3' := S5 _ _ (hs _ _ e3)
                          have e4' := S5 _ _ (hs _ _ e4)
                          walk_at "vs"
                          refine q _ _ (SS.trans (hs.trans S5)) ?_
                          have hch : choiceT (.tup tz) = bs.isEmpty := by
                            show (decide (1 ≤ tz.length) && decide (tz.length ≤ 9) && tz.all nameT) = _
                            rw [decide_eq_true (by omega), decide_eq_true (by omega), hb]; rfl
                          cases hbe : bs.isEmpty with
                          | true =>
                            rw [hbe, if_pos rfl] at hyy
                            subst hyy
                            exact spots_some ((shape_cho _ _).trans (if_pos (hch.trans hbe))) fr3 e3'
                          | false =>
                            rw [hbe, if_neg (by decide)] at hyy
                            subst hyy
                            exact spots_none ((shape_cho _ _).trans (if_neg (by rw [hch, hbe]; decide)))
                      · have d2' : ¬ (zs.length : Int) ≤ 9 := by simpa using d2
                        walk_at "vs"
                        refine q _ _ (S1.trans S2) (spots_none ((shape_cho _ _).trans (if_neg ?_)))
                        show ¬ (decide (1 ≤ tz.length) && decide (tz.length ≤ 9) && tz.all nameT) = true
                        rw [decide_eq_false (show ¬ tz.length ≤ 9 by omega)]
                        simp
                    · have d1' : ¬ 1 ≤ (zs.length : Int) := by simpa using d1
                      walk_at "vs"
                      refine q _ _ (S1.trans S2) (spots_none ((shape_cho _ _).trans (if_neg ?_)))
                      show ¬ (decide (1 ≤ tz.length) && decide (tz.length ≤ 9) && tz.all nameT) = true
                      rw [decide_eq_false (show ¬ 1 ≤ tz.length by omega)]
                      simp
                · walk_at "vs"
                  refine q _ _ (S1.trans S2) (spots_none ?_)
                  rw [shape3, if_neg (fun z => c1 (decide_eq_true (congrArg V.str z))), if_neg hop]
            | @cons v3 t3 vs3 ts3 hv3 hr3 =>
              cases hr3 with
              | nil =>
                walk_at "vs"
                refine ite2 (fun c1 => ?_) (fun c1 => ?_)
                · have hk : k = "pick" := V.str.inj (of_decide_eq_true c1)
                  subst hk
                  walk_at "vs"
                  intro p3 hp3
                  exact q _ _ (S1.trans (same_new _ hp3)) (spots_some (shape_pick _ _ _) (S1.free hp3) upd_same)
                · walk_at "vs"
                  refine q _ _ S1 (spots_none ?_)
                  rw [shape4, if_neg (fun z => c1 (decide_eq_true (congrArg V.str z)))]
              | cons _ _ => simp at hn
end

section
variable {P : Program} {w : World} {K : PySem.W.Frag} {mg : Str → Option Value} {base : Heap}
theorem szN_le : ∀ (n : Nat) (t : Th), szN n t ≤ 1000 * 4 ^ n
  | 0, t => Nat.le_refl 1000
  | n + 1, t => by
    have hp : 1 ≤ 4 ^ n := Nat.pos_of_ne_zero (by simp)
    rw [Nat.pow_succ]
    show (match shapeT t with | none => 1000 | some ks => 1 + (ks.map (szN n)).sum) ≤ _
    cases e : shapeT t with
    | none => show 1000 ≤ _; omega
    | some ks =>
      have h2 := kids_le e
      have ih : ∀ k ∈ ks, szN n k ≤ 1000 * 4 ^ n := fun k hk => szN_le n k
      show 1 + (ks.map (szN n)).sum ≤ _
      match ks, h2, ih with
      | [], _, _ => simp; omega
      | [a], _, ih =>
        have := ih a (by simp)
        simp; omega
      | [a, b], _, ih =>
        have := ih a (by simp)
        have := ih b (by simp)
        simp; omega
      | [a, b, c], _, ih =>
        have := ih a (by simp)
        have := ih b (by simp)
        have := ih c (by simp)
        simp; omega
theorem sumFits_small : ∀ {l : List Int}, (∀ x ∈ l, 0 ≤ x ∧ x ≤ 100000000) → l.length ≤ 3 → PySem.SumFits l
  | [], _, _ => fun j hj => by simp at hj
  | [a], h, _ => fun j hj => by
    have ha := h a (by simp)
    match j, hj with
    | 0, _ => simp [InLong]; omega
  | [a, b], h, _ => fun j hj => by
    have ha := h a (by simp)
    have hb := h b (by simp)
    match j, hj with
    | 0, _ => simp [InLong]; omega
    | 1, _ => simp [InLong]; omega
  | [a, b, c], h, _ => fun j hj => by
    have ha := h a (by simp)
    have hb := h b (by simp)
    have hc := h c (by simp)
    match j, hj with
    | 0, _ => simp [InLong]; omega
    | 1, _ => simp [InLong]; omega
    | 2, _ => simp [InLong]; omega
theorem sum_cast (g : Th → Nat) : ∀ ks : List Th, (ks.map fun k => (g k : Int)).sum = (((ks.map g).sum : Nat) : Int)
  | [] => rfl
  | k :: r => by
    have := sum_cast g r
    simp only [List.map_cons, List.sum_cons, this]
    omega
theorem isTh_spots {K : PySem.W.Frag} {H : Hp} {v : V} {t : Th} {ks : List Th} (h : IsTh K H v t) (e : shapeT t = some ks) :
    ∃ a ws, v = .ref a ∧ H a = some (.tup ws) ∧ ∀ (i : Nat) (x : V), (idxs ks.length)[i]? = some x → ∃ (j : Int) (b : V) (k : Th), x = V.int j ∧ atI ws j = some b ∧ ks[i]? = some k ∧ IsTh K H b k := by
  rcases shape_inv e with ⟨x, rfl, rfl⟩ | ⟨x, rfl, rfl⟩ | ⟨x, y, rfl, rfl⟩ | ⟨k, x, y, _, rfl, rfl⟩ | ⟨x, y, z, rfl, rfl⟩
  · cases h with
    | tup e h => exact ⟨_, _, rfl, e, fun i x hx => by simp [idxs] at hx⟩
  · cases h with
    | tup e h => exact ⟨_, _, rfl, e, fun i x hx => by simp [idxs] at hx⟩
  · cases h with
    | tup e h =>
      cases h with
      | cons h0 h => cases h with
        | cons h1 h =>
          refine ⟨_, _, rfl, e, fun i x hx => ?_⟩
          match i, hx with
          | 0, hx => cases hx; exact ⟨1, _, _, rfl, atI_nat (j := 1) rfl, rfl, h1⟩
  · cases h with
    | tup e h =>
      cases h with
      | cons h0 h => cases h with
        | cons h1 h => cases h with
          | cons h2 h =>
            refine ⟨_, _, rfl, e, fun i x hx => ?_⟩
            match i, hx with
            | 0, hx => cases hx; exact ⟨1, _, _, rfl, atI_nat (j := 1) rfl, rfl, h1⟩
            | 1, hx => cases hx; exact ⟨2, _, _, rfl, atI_nat (j := 2) rfl, rfl, h2⟩
  · cases h with
    | tup e h =>
      cases h with
      | cons h0 h => cases h with
        | cons h1 h => cases h with
          | cons h2 h => cases h with
            | cons h3 h =>
              refine ⟨_, _, rfl, e, fun i x hx => ?_⟩
              match i, hx with
              | 0, hx => cases hx; exact ⟨1, _, _, rfl, atI_nat (j := 1) rfl, rfl, h1⟩
              | 1, hx => cases hx; exact ⟨2, _, _, rfl, atI_nat (j := 2) rfl, rfl, h2⟩
              | 2, hx => cases hx; exact ⟨3, _, _, rfl, atI_nat (j := 3) rfl, rfl, h3⟩
theorem idxs_len {ks : List Th} (h : ks.length ≤ 3) : (idxs ks.length).length = ks.length := by
  match ks, h with
  | [], _ => rfl
  | [_], _ => rfl
  | [_, _], _ => rfl
  | [_, _, _], _ => rfl
noncomputable def spSzT (K : PySem.W.Frag) : Nat → Sp
  | 0 => fun _ _ _ _ => False
  | n + 1 => spSizeT K n
noncomputable abbrev s_law_size : Stmt := top 22
theorem sc_law_size : FnScope ["thing", "depth", "spots"] ["thing", "depth"] (defScope s_law_size) := ⟨rfl, rfl, rfl, by decide +kernel, rfl, by decide +kernel, by decide +kernel⟩
theorem lo_law_size_spots : Loc (defScope s_law_size) "spots" := by decide +kernel
theorem gl_law_size__law_spots : (defScope s_law_size).names.lookup ("_law_spots" : Str) = some NameKind.globalImplicit := by decide +kernel
theorem vo_law_size_thing : VarOk (defScope s_law_size) "thing" := by decide +kernel
theorem db_law_size__law_spots : (("_law_spots" : Str) == ("__debug__" : Str)) = false := by decide +kernel
theorem vo_law_size_depth : VarOk (defScope s_law_size) "depth" := by decide +kernel
theorem vo_law_size_spots : VarOk (defScope s_law_size) "spots" := by decide +kernel
theorem gl_law_size_sum : (defScope s_law_size).names.lookup ("sum" : Str) = some NameKind.globalImplicit := by decide +kernel
theorem db_law_size__law_size : (("_law_size" : Str) == ("__debug__" : Str)) = false := by decide +kernel
theorem nn_law_size_sum : ("sum" : Str) ≠ "__name__" := by decide +kernel
theorem db_law_size_sum : (("sum" : Str) == ("__debug__" : Str)) = false := by decide +kernel
theorem step_law_size {n : Nat} {f g1 : Addr} {fd gd1 : FuncData} (T_law_size : FnT K mg "_law_size" s_law_size ["thing", "depth"] f fd) (G_law_size : FnOk P w K mg base CX0 (n + 3) f fd ["thing", "depth"] (spSzT K n))
    (T_law_spots : FnT K mg "_law_spots" s_law_spots ["thing"] g1 gd1) (G_law_spots : FnOk P w K mg base CX0 2 g1 gd1 ["thing"] (spSpotsT K))
    (T : Blt mg) : FnOk P w K mg base CX0 (n + 1 + 3) f fd ["thing", "depth"] (spSizeT K n) := by
  refine T_law_size.F.okQ sc_law_size (fun vs H Q E h => ?_) (fun cdv A outer s H vs Q E hr h => ?_)
  · obtain ⟨a, r, d, rfl, _⟩ := h
    rfl
  obtain ⟨v, t, d, rfl, hi, hasc, hd1, hd, q⟩ := h
  refine ⟨_, (qss_cons (qs_set (i := 2) sc_law_size.nd rfl lo_law_size_spots (qe_call (G_law_spots.mono (by omega)) hr gl_law_size__law_spots T_law_spots.m T_law_spots.F.kp T_law_spots.b .nil pass0 (qa_N (qe_var 0 vo_law_size_thing) qa_nil) db_law_size__law_spots))
    (qss_cons (qs_if (qt_w (qw_or (qt_cmp qop_isN (qe_var 2 vo_law_size_spots) qe_non (nomarkQ _)) (qw_or1 (qt_cmp qop_gt (qe_var 1 vo_law_size_depth) qe_int (nomarkQ _))))) (qss_one (qs_ret qe_int)) qss_nil)
    (qss_one (qs_ret (qe_op qop_add qe_int (qe_callB (qc_sumL rfl) gl_law_size_sum T.b_sum bt_sum (qa_M (qe_comp rfl (n := 1) (fr := [0, 1]) (N := ["spot", "thing", "depth"]) (cs_mk (scX := defScope s_law_size) (NX := ["thing", "depth", "spots"]) rfl rfl (by decide +kernel)) (qi_list (qe_var 2 vo_law_size_spots)) (fun _ _ _ _ _ => (qgx (i := 0) (show List.Nodup (α := Str) ["spot", "thing", "depth"] by decide) (locC (by decide +kernel)))) (fun _ _ _ _ _ => qi_nil) (fun _ _ _ _ _ => (qe_call (G_law_size.mono (by omega)) hr (glC (by decide +kernel)) T_law_size.m T_law_size.F.kp T_law_size.b .nil pass0 (qa_S (qe_ix (qix_tupK (K := K) rfl) (qe_var 1 (VarC.ok (by decide +kernel))) (qe_var 0 (VarC.ok (by decide +kernel)))) (qa_B (qe_op qop_add (qe_var 2 (VarC.ok (by decide +kernel))) qe_int) qa_nil)) db_law_size__law_size))) qa_nil) nn_law_size_sum db_law_size_sum)))))), ?_⟩
  walk_at "vs"
  intro x H1 s1 hv
  cases ek : shapeT t with
  | none =>
    rw [ek] at hv
    have hv : x = .non := hv
    subst hv
    have es : szN n t = 1000 := by
      cases n with
      | zero => rfl
      | succ m =>
        show (match shapeT t with | none => 1000 | some ks => 1 + (ks.map (szN m)).sum) = 1000
        rw [ek]
    rw [es] at q
    walk_at "vs"
    exact q _ s1
  | some ks =>
    rw [ek] at hv
    have hv : ∃ p, x = V.ref p ∧ H p = none ∧ H1 p = some (HO.lst (idxs ks.length)) := hv
    obtain ⟨p, rfl, _, hp⟩ := hv
    have k2 := kids_le ek
    have k3 := idxs_len k2
    walk_at "vs"
    cases n with
    | zero =>
      refine itB_t (decide_eq_true (by omega)) ?_
      walk_at "vs"
      exact q _ s1
    | succ m =>
      refine itB_f (decide_eq_false (by omega)) ?_
      walk_at "vs"
      intro D hD
      have hi1 := hi.same s1
      obtain ⟨a, ws, rfl, ews, hws⟩ := isTh_spots hi1 ek
      refine comp_list (xs := idxs ks.length) (fun i σ' H' => Wr ((∃ z, σ' = [z, some (.ref a), some (.int d)]) ∧ Same H1 H' ∧ H' D = some (.lst (((ks.take i).map fun k => (szN m k : Int)).map V.int)))) ?_ ?_ ?_ ?_
      · exact .mk ⟨⟨none, rfl⟩, same_new _ hD, upd_same⟩
      · intro i σ' H' _ hP
        exact SqL.of (hP.h.2.1 _ _ hp)
      · intro i x σ' H' hix hP
        obtain ⟨⟨z, rfl⟩, hs, hd'⟩ := hP.h
        obtain ⟨j, b, k, rfl, hat, hk, hkr⟩ := hws i x hix
        have ews' := hs _ _ ews
        have hkr' := hkr.same hs
        have hkf := hasc.kid ek k (List.mem_of_getElem? hk)
        have hz : (((ks.take i).map fun k => (szN m k : Int)).map V.int).length < sizeLine := by
          rw [List.length_map, List.length_map, List.length_take]; exact small1000 (by omega)
        walk_at "vs"
        intro H5 s5
        refine ⟨_, s5 _ _ hd', hz, ?_⟩
        refine .mk ⟨⟨_, rfl⟩, same_updN _ hD (hs.trans s5), ?_⟩
        rw [upd_same, List.take_succ, hk, List.map_append, List.map_append]
        rfl
      · intro σ' H' hP
        obtain ⟨_, hs, hd'⟩ := hP.h
        rw [k3, List.take_length] at hd'
        have hfit : PySem.SumFits (ks.map fun k => (szN m k : Int)) := sumFits_small (by
          intro x hx
          obtain ⟨k, hk, rfl⟩ := List.mem_map.mp hx
          have := szN_le m k
          have h4 : 4 ^ m ≤ 4 ^ 8 := Nat.pow_le_pow_right (by decide) (by omega)
          have : (4 : Nat) ^ 8 = 65536 := by decide
          omega) (by rw [List.length_map]; exact k2)
        walk_at "vs"
        have es : szN (m + 1) t = 1 + (ks.map (szN m)).sum := by
          show (match shapeT t with | none => 1000 | some ks => 1 + (ks.map (szN m)).sum) = _
          rw [ek]
        have ee : (1 : Int) + (ks.map fun k => (szN m k : Int)).sum = ((szN (m + 1) t : Nat) : Int) := by
          rw [es, sum_cast]; omega
        show Q (V.int ((1 : Int) + (ks.map fun k => (szN m k : Int)).sum)) H'
        rw [ee]
        exact q _ (s1.trans hs)
theorem ok_law_size {f g1 : Addr} {fd gd1 : FuncData} (T_law_size : FnT K mg "_law_size" s_law_size ["thing", "depth"] f fd)
    (T_law_spots : FnT K mg "_law_spots" s_law_spots ["thing"] g1 gd1) (G_law_spots : FnOk P w K mg base CX0 2 g1 gd1 ["thing"] (spSpotsT K))
    (T : Blt mg) : ∀ n : Nat, FnOk P w K mg base CX0 (n + 3) f fd ["thing", "depth"] (spSzT K n)
  | 0 => never fun vs H Q E h => h
  | n + 1 => step_law_size T_law_size (ok_law_size T_law_size T_law_spots G_law_spots T n) T_law_spots G_law_spots T
noncomputable abbrev s_law_is : Stmt := top 23
theorem sc_law_is : FnScope ["thing"] ["thing"] (defScope s_law_is) := ⟨rfl, rfl, rfl, by decide +kernel, rfl, by decide +kernel, by decide +kernel⟩
theorem gl_law_is__law_size : (defScope s_law_is).names.lookup ("_law_size" : Str) = some NameKind.globalImplicit := by decide +kernel
theorem vo_law_is_thing : VarOk (defScope s_law_is) "thing" := by decide +kernel
theorem db_law_is__law_size : (("_law_size" : Str) == ("__debug__" : Str)) = false := by decide +kernel
theorem ok_law_is {f g1 : Addr} {fd gd1 : FuncData} (T_law_is : FnT K mg "_law_is" s_law_is ["thing"] f fd)
    (T_law_size : FnT K mg "_law_size" s_law_size ["thing", "depth"] g1 gd1) (G_law_size : FnOk P w K mg base CX0 12 g1 gd1 ["thing", "depth"] (spSizeT K 8))
    (T : Blt mg) : FnOk P w K mg base CX0 13 f fd ["thing"] (spLIsT K) := by
  refine T_law_is.F.okQ sc_law_is (fun vs H Q E h => ?_) (fun cdv A outer s H vs Q E hr h => ?_)
  · obtain ⟨a, r, rfl, _⟩ := h
    rfl
  obtain ⟨v, t, rfl, hi, hf, q⟩ := h
  refine ⟨_, (qss_one (qs_ret (qe_cmp qop_le (qe_call (G_law_size.mono (by omega)) hr gl_law_is__law_size T_law_size.m T_law_size.F.kp T_law_size.b .nil pass0 (qa_N (qe_var 0 vo_law_is_thing) (qa_C qe_int qa_nil)) db_law_is__law_size) qe_int (nomarkQ _)))), ?_⟩
  walk_at "vs"
  intro H5 s5
  walk_at "vs"
  have ee : decide (((szN 8 t : Nat) : Int) ≤ 100) = decide (szN 8 t ≤ 100) := by
    by_cases h : szN 8 t ≤ 100
    · rw [decide_eq_true h, decide_eq_true (by omega)]
    · rw [decide_eq_false h, decide_eq_false (by omega)]
  show Q (V.bl (decide (((szN 8 t : Nat) : Int) ≤ 100))) H5
  rw [ee]
  exact q _ s5
end

section
variable {P : Program} {w : World} {K : PySem.W.Frag} {mg : Str → Option Value} {base : Heap}
theorem cut_mem {xs : List V} {lo hi : Option Int} {v : V} (h : v ∈ cutV xs lo hi) : v ∈ xs := by
  unfold cutV at h
  exact List.mem_of_mem_drop (List.mem_of_mem_take h)
theorem rep_mem {v : V} (h : v ∈ (List.replicate (Int.toNat 10) [V.str "a"]).flatten) : v = V.str "a" := by
  obtain ⟨l, hl, hv⟩ := List.mem_flatten.mp h
  have := (List.mem_replicate.mp hl).2
  subst this
  simpa using hv
theorem rep_ok {S : List Addr} {H : Hp} : ∀ v ∈ (List.replicate (Int.toNat 10) [V.str "a"]).flatten, Ok S H v := fun v hv => by
  rw [rep_mem hv]
  exact Ok.str (by decide +kernel)
theorem tgs_mem {S : List Addr} {H : Hp} : ∀ {vs : List V} {ts : List Th}, Tgs S H vs ts → (∀ t ∈ ts, AscT t) → ∀ v ∈ vs, Ok S H v
  | _, _, .nil, _, v, hv => by simp at hv
  | _, _, .cons h r, ha, v, hv => by
    rcases List.mem_cons.mp hv with rfl | z
    · exact ⟨_, h, ha _ (by simp)⟩
    · exact tgs_mem r (fun t ht => ha t (List.mem_cons_of_mem _ ht)) v z
theorem wOk {S : List Addr} {H : Hp} {a : Addr} {r : R} {ws : List V} (h : IsR H a r) (g : r.Good) (e : H a = some (.tup ws)) : ∀ v ∈ ws, Ok S H v := by
  have h1 := h.tg (S := S)
  have h2 := r.asc g
  generalize r.toTh = t at h1 h2
  cases h1 with
  | tup e' h' =>
    rw [e] at e'
    cases e'
    exact tgs_mem h' h2.of
  | lst e' _ => rw [e] at e'; cases e'
  | dic e' _ => rw [e] at e'; cases e'
theorem isR_tup {H : Hp} {a : Addr} {r : R} (h : IsR H a r) : ∃ ws, H a = some (.tup ws) ∧ 2 ≤ ws.length ∧ ws.length ≤ 4 := by
  cases h with
  | num e => exact ⟨_, e, Nat.le_of_ble_eq_true rfl, Nat.le_of_ble_eq_true rfl⟩
  | rd e => exact ⟨_, e, Nat.le_of_ble_eq_true rfl, Nat.le_of_ble_eq_true rfl⟩
  | bin e _ _ => exact ⟨_, e, Nat.le_of_ble_eq_true rfl, Nat.le_of_ble_eq_true rfl⟩
  | pick e _ _ _ => exact ⟨_, e, Nat.le_of_ble_eq_true rfl, Nat.le_of_ble_eq_true rfl⟩
  | cho e _ _ => exact ⟨_, e, Nat.le_of_ble_eq_true rfl, Nat.le_of_ble_eq_true rfl⟩
theorem atI_in {L : List V} {n : Int} (h0 : 0 ≤ n) (h1 : n < (L.length : Int)) : ∃ v, atI L n = some v ∧ v ∈ L := by
  obtain ⟨k, rfl⟩ := Int.eq_ofNat_of_zero_le h0
  have hk : k < L.length := by omega
  exact ⟨L[k], atI_nat (by simp [hk]), List.getElem_mem hk⟩
noncomputable abbrev s_law_wrong : Stmt := top 24
theorem sc_law_wrong : FnScope ["r", "deck", "some"] ["r", "deck"] (defScope s_law_wrong) := ⟨rfl, rfl, rfl, by decide +kernel, rfl, by decide +kernel, by decide +kernel⟩
theorem lo_law_wrong_some : Loc (defScope s_law_wrong) "some" := by decide +kernel
theorem vo_law_wrong_some : VarOk (defScope s_law_wrong) "some" := by decide +kernel
theorem vo_law_wrong_r : VarOk (defScope s_law_wrong) "r" := by decide +kernel
theorem gl_law_wrong_list : (defScope s_law_wrong).names.lookup ("list" : Str) = some NameKind.globalImplicit := by decide +kernel
theorem nn_law_wrong_list : ("list" : Str) ≠ "__name__" := by decide +kernel
theorem db_law_wrong_list : (("list" : Str) == ("__debug__" : Str)) = false := by decide +kernel
theorem gl_law_wrong__law_draw : (defScope s_law_wrong).names.lookup ("_law_draw" : Str) = some NameKind.globalImplicit := by decide +kernel
theorem gl_law_wrong_len : (defScope s_law_wrong).names.lookup ("len" : Str) = some NameKind.globalImplicit := by decide +kernel
theorem nn_law_wrong_len : ("len" : Str) ≠ "__name__" := by decide +kernel
theorem db_law_wrong_len : (("len" : Str) == ("__debug__" : Str)) = false := by decide +kernel
theorem vo_law_wrong_deck : VarOk (defScope s_law_wrong) "deck" := by decide +kernel
theorem db_law_wrong__law_draw : (("_law_draw" : Str) == ("__debug__" : Str)) = false := by decide +kernel
theorem ok_law_wrong {f g1 : Addr} {fd gd1 : FuncData} (T_law_wrong : FnT K mg "_law_wrong" s_law_wrong ["r", "deck"] f fd)
    (T_law_draw : FnT K mg "_law_draw" s_law_draw ["deck", "many"] g1 gd1) (G_law_draw : FnOk P w K mg base CX0 1 g1 gd1 ["deck", "many"] spDraw)
    (T : Blt mg) : FnOk P w K mg base CX0 2 f fd ["r", "deck"] spWrongS := by
  refine T_law_wrong.F.okQ sc_law_wrong (fun vs H Q E h => ?_) (fun cdv A outer s H vs Q E hr h => ?_)
  · obtain ⟨a, r, d, c, S, rfl, _⟩ := h
    rfl
  obtain ⟨a, r, d, c, S, rfl, hR, hg, DK, FK, hdS, q⟩ := h
  obtain ⟨ws, eR, hw2, hw4⟩ := isR_tup hR
  have hw1000 : ws.length ≤ 1000 := by omega
  have hwne : ws ≠ [] := by intro z; rw [z] at hw2; simp at hw2
  have hane : [V.str "a"] ≠ [] := by simp
  have hs1 : ¬ (HT.sIx ws.length 0 none = 0 ∧ HT.sIx ws.length ws.length (some 1) = ws.length) := fun z => by
    have := z.2; rw [show (1 : Int) = ((1 : Nat) : Int) from rfl, HT.sIx_nat] at this; omega
  have hs2 : ¬ (HT.sIx ws.length 0 (some 1) = 0 ∧ HT.sIx ws.length ws.length none = ws.length) := fun z => by
    have := z.1; rw [show (1 : Int) = ((1 : Nat) : Int) from rfl, HT.sIx_nat] at this; omega
  have hcw : ws.length + (cutV ws none (some 1)).length ≤ sizeLine := Nat.le_of_lt (small1000 (by have := cutV_length ws none (some 1); omega))
  refine ⟨_, (qss_cons (qs_set (i := 2) sc_law_wrong.nd rfl lo_law_wrong_some (qe_lst (qa_C qe_non (qa_C qe_bl (qa_C qe_int (qa_C qe_str (qa_T (qe_tup qa_nil) (qa_L (qe_lst qa_nil) (qa_D qe_dnewK (qa_T (qe_tup (qa_C qe_str qa_nil)) (qa_T (qe_tup (qa_C qe_str qa_nil)) (qa_T (qe_tup (qa_C qe_str (qa_C qe_bl qa_nil))) (qa_T (qe_tup (qa_C qe_str (qa_C qe_str qa_nil))) (qa_T (qe_tup (qa_C qe_str (qa_C qe_str qa_nil))) qa_nil))))))))))))))
    (qss_cons (qs_set (i := 2) sc_law_wrong.nd rfl lo_law_wrong_some (qe_op qop_cat (qe_var 2 vo_law_wrong_some) (qe_lst (qa_T (qe_tup (qa_C qe_str (qa_C qe_str qa_nil))) (qa_T (qe_tup (qa_C qe_str (qa_C qe_str qa_nil))) (qa_T (qe_tup (qa_C qe_str (qa_C qe_int qa_nil))) (qa_T (qe_tup (qa_C qe_str (qa_C qe_str qa_nil))) (qa_T (qe_tup (qa_C qe_str (qa_C qe_int (qa_C qe_int qa_nil)))) (qa_T (qe_tup (qa_C qe_str (qa_N (qe_var 0 vo_law_wrong_r) qa_nil))) qa_nil)))))))))
    (qss_cons (qs_set (i := 2) sc_law_wrong.nd rfl lo_law_wrong_some (qe_op qop_cat (qe_var 2 vo_law_wrong_some) (qe_lst (qa_T (qe_tup (qa_C qe_str (qa_N (qe_var 0 vo_law_wrong_r) (qa_N (qe_var 0 vo_law_wrong_r) (qa_N (qe_var 0 vo_law_wrong_r) qa_nil))))) (qa_T (qe_tup (qa_C qe_str (qa_N (qe_var 0 vo_law_wrong_r) (qa_N (qe_var 0 vo_law_wrong_r) qa_nil)))) (qa_T (qe_tup (qa_C qe_str (qa_N (qe_var 0 vo_law_wrong_r) (qa_N (qe_var 0 vo_law_wrong_r) (qa_N (qe_var 0 vo_law_wrong_r) (qa_N (qe_var 0 vo_law_wrong_r) qa_nil)))))) (qa_T (qe_tup (qa_C qe_str (qa_N (qe_var 0 vo_law_wrong_r) (qa_T (qe_tup qa_nil) qa_nil)))) (qa_T (qe_tup (qa_C qe_str (qa_N (qe_var 0 vo_law_wrong_r) (qa_L (qe_lst (qa_C qe_str qa_nil)) qa_nil)))) qa_nil))))))))
    (qss_cons (qs_set (i := 2) sc_law_wrong.nd rfl lo_law_wrong_some (qe_op qop_cat (qe_var 2 vo_law_wrong_some) (qe_lst (qa_T (qe_tup (qa_C qe_str (qa_N (qe_var 0 vo_law_wrong_r) (qa_B (qe_op qop_repT2 (qe_tup (qa_C qe_str qa_nil)) qe_int) qa_nil)))) (qa_T (qe_tup (qa_C qe_str (qa_N (qe_var 0 vo_law_wrong_r) (qa_T (qe_tup (qa_C qe_str (qa_C qe_str qa_nil))) qa_nil)))) (qa_T (qe_tup (qa_C qe_str (qa_N (qe_var 0 vo_law_wrong_r) qa_nil))) (qa_T (qe_tup (qa_C qe_str (qa_N (qe_var 0 vo_law_wrong_r) (qa_C qe_str qa_nil)))) (qa_F (qe_callTy qc_list_of gl_law_wrong_list T.b_list bt_list (qa_N (qe_var 0 vo_law_wrong_r) qa_nil) nn_law_wrong_list db_law_wrong_list) qa_nil))))))))
    (qss_cons (qs_set (i := 2) sc_law_wrong.nd rfl lo_law_wrong_some (qe_op qop_cat (qe_var 2 vo_law_wrong_some) (qe_lst (qa_T (qe_tup (qa_C qe_str (qa_N (qe_var 0 vo_law_wrong_r) (qa_N (qe_var 0 vo_law_wrong_r) qa_nil)))) (qa_T (qe_tup (qa_L (qe_lst (qa_C qe_str qa_nil)) (qa_N (qe_var 0 vo_law_wrong_r) (qa_N (qe_var 0 vo_law_wrong_r) qa_nil)))) (qa_T (qe_tup (qa_C qe_non (qa_N (qe_var 0 vo_law_wrong_r) qa_nil))) (qa_T (qe_tup (qa_C qe_str (qa_N (qe_var 0 vo_law_wrong_r) (qa_C qe_non qa_nil)))) (qa_T (qe_tup (qa_N (qe_var 0 vo_law_wrong_r) qa_nil)) (qa_T (qe_tup (qa_C qe_str (qa_C qe_non qa_nil))) (qa_T (qe_tup (qa_N (qe_var 0 vo_law_wrong_r) (qa_N (qe_var 0 vo_law_wrong_r) (qa_N (qe_var 0 vo_law_wrong_r) qa_nil)))) qa_nil))))))))))
    (qss_cons (qs_set (i := 2) sc_law_wrong.nd rfl lo_law_wrong_some (qe_op qop_cat (qe_var 2 vo_law_wrong_some) (qe_lst (qa_T (qe_tup (qa_C qe_str (qa_T (qe_tup (qa_C qe_str qa_nil)) (qa_T (qe_tup (qa_C qe_str qa_nil)) qa_nil)))) (qa_T (qe_tup (qa_C qe_str (qa_T (qe_tup (qa_C qe_str qa_nil)) qa_nil))) (qa_T (qe_tup (qa_C qe_str (qa_L (qe_lst qa_nil) (qa_N (qe_var 0 vo_law_wrong_r) qa_nil)))) (qa_B (qe_op qop_catT2 (qe_var 0 vo_law_wrong_r) (qe_slice qsl_tup (qe_var 0 vo_law_wrong_r) qo_none (qo_some qe_int))) (qa_S (qe_slice qsl_tup (qe_var 0 vo_law_wrong_r) (qo_some qe_int) qo_none) (qa_T (qe_tup (qa_C qe_str (qa_N (qe_var 0 vo_law_wrong_r) (qa_C qe_str qa_nil)))) qa_nil)))))))))
    (qss_cons (qs_set (i := 2) sc_law_wrong.nd rfl lo_law_wrong_some (qe_op qop_cat (qe_var 2 vo_law_wrong_some) (qe_lst (qa_T (qe_tup (qa_C qe_str (qa_N (qe_var 0 vo_law_wrong_r) (qa_T (qe_tup (qa_C qe_str qa_nil)) qa_nil)))) (qa_T (qe_tup (qa_C qe_str (qa_N (qe_var 0 vo_law_wrong_r) (qa_T (qe_tup (qa_C qe_str (qa_C qe_str qa_nil))) qa_nil)))) (qa_T (qe_tup (qa_C qe_str (qa_N (qe_var 0 vo_law_wrong_r) (qa_T (qe_tup (qa_C qe_int qa_nil)) qa_nil)))) qa_nil))))))
    (qss_cons (qs_set (i := 2) sc_law_wrong.nd rfl lo_law_wrong_some (qe_op qop_cat (qe_var 2 vo_law_wrong_some) (qe_lst (qa_T (qe_tup (qa_C qe_str (qa_N (qe_var 0 vo_law_wrong_r) (qa_T (qe_tup (qa_C qe_str (qa_C qe_str qa_nil))) qa_nil)))) (qa_T (qe_tup (qa_C qe_str (qa_N (qe_var 0 vo_law_wrong_r) (qa_T (qe_tup (qa_C qe_non (qa_C qe_str qa_nil))) qa_nil)))) (qa_T (qe_tup (qa_C qe_str (qa_N (qe_var 0 vo_law_wrong_r) (qa_T (qe_tup (qa_T (qe_tup (qa_C qe_str qa_nil)) qa_nil)) qa_nil)))) qa_nil))))))
    (qss_one (qs_ret (qe_ix qix_list (qe_var 2 vo_law_wrong_some) (qe_call (G_law_draw.mono (by omega)) hr gl_law_wrong__law_draw T_law_draw.m T_law_draw.F.kp T_law_draw.b .nil pass0 (qa_N (qe_var 1 vo_law_wrong_deck) (qa_F (qe_callB qc_len_seq gl_law_wrong_len T.b_len bt_len (qa_N (qe_var 2 vo_law_wrong_some) qa_nil) nn_law_wrong_len db_law_wrong_len) qa_nil)) db_law_wrong__law_draw)))))))))))), ?_⟩
  have SS := Same.refl H
  walk_at "vs"
  intro p1 hp1
  have U := same_new (.tup []) hp1
  have np1 := FK.fresh hp1
  have ep1 := upd_same (H := H) (a := p1) (o := .tup [])
  generalize upd H p1 (.tup []) = H1 at U ep1 ⊢
  replace hR := hR.same U
  replace DK := DK.same U
  replace FK := FK.same U
  replace SS := SS.trans U
  replace eR := U _ _ eR
  have op1 : Ok S H1 (.ref p1) := Ok.tup ep1 (Nat.le_of_ble_eq_true rfl) All.nil
  clear U np1 hp1 ep1
  walk_at "vs"
  intro p2 hp2
  have U := same_new (.lst []) hp2
  have np2 := FK.fresh hp2
  have ep2 := upd_same (H := H1) (a := p2) (o := .lst [])
  generalize upd H1 p2 (.lst []) = H2 at U ep2 ⊢
  replace hR := hR.same U
  replace DK := DK.same U
  replace FK := FK.same U
  replace SS := SS.trans U
  replace eR := U _ _ eR
  replace op1 := op1.same U
  have op2 : Ok S H2 (.ref p2) := Ok.lst ep2 np2
  clear U np2 hp2 ep2
  try clear H1
  walk_at "vs"
  intro p3 hp3
  have U := same_new (.dK []) hp3
  have np3 := FK.fresh hp3
  have ep3 := upd_same (H := H2) (a := p3) (o := .dK [])
  generalize upd H2 p3 (.dK []) = H3 at U ep3 ⊢
  replace hR := hR.same U
  replace DK := DK.same U
  replace FK := FK.same U
  replace SS := SS.trans U
  replace eR := U _ _ eR
  replace op1 := op1.same U
  replace op2 := op2.same U
  have op3 : Ok S H3 (.ref p3) := Ok.dic ep3 np3
  clear U np3 hp3 ep3
  try clear H2
  walk_at "vs"
  intro p4 hp4
  have U := same_new (.tup [V.str "number"]) hp4
  have np4 := FK.fresh hp4
  have ep4 := upd_same (H := H3) (a := p4) (o := .tup [V.str "number"])
  generalize upd H3 p4 (.tup [V.str "number"]) = H4 at U ep4 ⊢
  replace hR := hR.same U
  replace DK := DK.same U
  replace FK := FK.same U
  replace SS := SS.trans U
  replace eR := U _ _ eR
  replace op1 := op1.same U
  replace op2 := op2.same U
  replace op3 := op3.same U
  have op4 : Ok S H4 (.ref p4) := Ok.tup ep4 (Nat.le_of_ble_eq_true rfl) (All.cons (Ok.str (by decide +kernel)) All.nil)
  clear U np4 hp4 ep4
  try clear H3
  walk_at "vs"
  intro p5 hp5
  have U := same_new (.tup [V.str "read"]) hp5
  have np5 := FK.fresh hp5
  have ep5 := upd_same (H := H4) (a := p5) (o := .tup [V.str "read"])
  generalize upd H4 p5 (.tup [V.str "read"]) = H5 at U ep5 ⊢
  replace hR := hR.same U
  replace DK := DK.same U
  replace FK := FK.same U
  replace SS := SS.trans U
  replace eR := U _ _ eR
  replace op1 := op1.same U
  replace op2 := op2.same U
  replace op3 := op3.same U
  replace op4 := op4.same U
  have op5 : Ok S H5 (.ref p5) := Ok.tup ep5 (Nat.le_of_ble_eq_true rfl) (All.cons (Ok.str (by decide +kernel)) All.nil)
  clear U np5 hp5 ep5
  try clear H4
  walk_at "vs"
  intro p6 hp6
  have U := same_new (.tup [V.str "number", V.bl true]) hp6
  have np6 := FK.fresh hp6
  have ep6 := upd_same (H := H5) (a := p6) (o := .tup [V.str "number", V.bl true])
  generalize upd H5 p6 (.tup [V.str "number", V.bl true]) = H6 at U ep6 ⊢
  replace hR := hR.same U
  replace DK := DK.same U
  replace FK := FK.same U
  replace SS := SS.trans U
  replace eR := U _ _ eR
  replace op1 := op1.same U
  replace op2 := op2.same U
  replace op3 := op3.same U
  replace op4 := op4.same U
  replace op5 := op5.same U
  have op6 : Ok S H6 (.ref p6) := Ok.tup ep6 (Nat.le_of_ble_eq_true rfl) (All.cons (Ok.str (by decide +kernel)) (All.cons (Ok.bl true) All.nil))
  clear U np6 hp6 ep6
  try clear H5
  walk_at "vs"
  intro p7 hp7
  have U := same_new (.tup [V.str "number", V.str "1"]) hp7
  have np7 := FK.fresh hp7
  have ep7 := upd_same (H := H6) (a := p7) (o := .tup [V.str "number", V.str "1"])
  generalize upd H6 p7 (.tup [V.str "number", V.str "1"]) = H7 at U ep7 ⊢
  replace hR := hR.same U
  replace DK := DK.same U
  replace FK := FK.same U
  replace SS := SS.trans U
  replace eR := U _ _ eR
  replace op1 := op1.same U
  replace op2 := op2.same U
  replace op3 := op3.same U
  replace op4 := op4.same U
  replace op5 := op5.same U
  replace op6 := op6.same U
  have op7 : Ok S H7 (.ref p7) := Ok.tup ep7 (Nat.le_of_ble_eq_true rfl) (All.cons (Ok.str (by decide +kernel)) (All.cons (Ok.str (by decide +kernel)) All.nil))
  clear U np7 hp7 ep7
  try clear H6
  walk_at "vs"
  intro p8 hp8
  have U := same_new (.tup [V.str "read", V.str ""]) hp8
  have np8 := FK.fresh hp8
  have ep8 := upd_same (H := H7) (a := p8) (o := .tup [V.str "read", V.str ""])
  generalize upd H7 p8 (.tup [V.str "read", V.str ""]) = H8 at U ep8 ⊢
  replace hR := hR.same U
  replace DK := DK.same U
  replace FK := FK.same U
  replace SS := SS.trans U
  replace eR := U _ _ eR
  replace op1 := op1.same U
  replace op2 := op2.same U
  replace op3 := op3.same U
  replace op4 := op4.same U
  replace op5 := op5.same U
  replace op6 := op6.same U
  replace op7 := op7.same U
  have op8 : Ok S H8 (.ref p8) := Ok.tup ep8 (Nat.le_of_ble_eq_true rfl) (All.cons (Ok.str (by decide +kernel)) (All.cons (Ok.str (by decide +kernel)) All.nil))
  clear U np8 hp8 ep8
  try clear H7
  walk_at "vs"
  intro p9 hp9
  have U := same_new (.lst [V.non, V.bl true, V.int 5, V.str "x", V.ref p1, V.ref p2, V.ref p3, V.ref p4, V.ref p5, V.ref p6, V.ref p7, V.ref p8]) hp9
  have np9 := FK.fresh hp9
  have ep9 := upd_same (H := H8) (a := p9) (o := .lst [V.non, V.bl true, V.int 5, V.str "x", V.ref p1, V.ref p2, V.ref p3, V.ref p4, V.ref p5, V.ref p6, V.ref p7, V.ref p8])
  generalize upd H8 p9 (.lst [V.non, V.bl true, V.int 5, V.str "x", V.ref p1, V.ref p2, V.ref p3, V.ref p4, V.ref p5, V.ref p6, V.ref p7, V.ref p8]) = H9 at U ep9 ⊢
  replace hR := hR.same U
  replace DK := DK.same U
  replace FK := FK.same U
  replace SS := SS.trans U
  replace eR := U _ _ eR
  replace op1 := op1.same U
  replace op2 := op2.same U
  replace op3 := op3.same U
  replace op4 := op4.same U
  replace op5 := op5.same U
  replace op6 := op6.same U
  replace op7 := op7.same U
  replace op8 := op8.same U
  have aN : All S H9 [V.non, V.bl true, V.int 5, V.str "x", V.ref p1, V.ref p2, V.ref p3, V.ref p4, V.ref p5, V.ref p6, V.ref p7, V.ref p8] := (All.cons Ok.non (All.cons (Ok.bl true) (All.cons (Ok.int 5) (All.cons (Ok.str (by decide +kernel)) (All.cons op1 (All.cons op2 (All.cons op3 (All.cons op4 (All.cons op5 (All.cons op6 (All.cons op7 (All.cons op8 All.nil))))))))))))
  have lN : [V.non, V.bl true, V.int 5, V.str "x", V.ref p1, V.ref p2, V.ref p3, V.ref p4, V.ref p5, V.ref p6, V.ref p7, V.ref p8].length = 12 := rfl
  generalize [V.non, V.bl true, V.int 5, V.str "x", V.ref p1, V.ref p2, V.ref p3, V.ref p4, V.ref p5, V.ref p6, V.ref p7, V.ref p8] = LN at ep9 aN lN
  obtain ⟨ps, hps⟩ : ∃ ps, ps = p9 := ⟨_, rfl⟩
  have eS : H9 p9 = some (.lst LN) := ep9
  have aS := aN
  have lS : LN.length = 12 := lN
  have nS := np9
  generalize LN = L at eS aS lS
  clear aN lN ep9 hp9 np9 U
  clear hps ps
  clear op1 op2 op3 op4 op5 op6 op7 op8
  try clear H8
  walk_at "vs"
  intro p10 hp10
  have U := same_new (.tup [V.str "read", V.str "Ab"]) hp10
  have np10 := FK.fresh hp10
  have ep10 := upd_same (H := H9) (a := p10) (o := .tup [V.str "read", V.str "Ab"])
  generalize upd H9 p10 (.tup [V.str "read", V.str "Ab"]) = H10 at U ep10 ⊢
  replace hR := hR.same U
  replace DK := DK.same U
  replace FK := FK.same U
  replace SS := SS.trans U
  replace eR := U _ _ eR
  replace eS := U _ _ eS
  replace aS := aS.same U
  have op10 : Ok S H10 (.ref p10) := Ok.tup ep10 (Nat.le_of_ble_eq_true rfl) (All.cons (Ok.str (by decide +kernel)) (All.cons (Ok.str (by decide +kernel)) All.nil))
  clear U np10 hp10 ep10
  try clear H9
  walk_at "vs"
  intro p11 hp11
  have U := same_new (.tup [V.str "read", V.str "abcdefghi"]) hp11
  have np11 := FK.fresh hp11
  have ep11 := upd_same (H := H10) (a := p11) (o := .tup [V.str "read", V.str "abcdefghi"])
  generalize upd H10 p11 (.tup [V.str "read", V.str "abcdefghi"]) = H11 at U ep11 ⊢
  replace hR := hR.same U
  replace DK := DK.same U
  replace FK := FK.same U
  replace SS := SS.trans U
  replace eR := U _ _ eR
  replace eS := U _ _ eS
  replace aS := aS.same U
  replace op10 := op10.same U
  have op11 : Ok S H11 (.ref p11) := Ok.tup ep11 (Nat.le_of_ble_eq_true rfl) (All.cons (Ok.str (by decide +kernel)) (All.cons (Ok.str (by decide +kernel)) All.nil))
  clear U np11 hp11 ep11
  try clear H10
  walk_at "vs"
  intro p12 hp12
  have U := same_new (.tup [V.str "read", V.int 7]) hp12
  have np12 := FK.fresh hp12
  have ep12 := upd_same (H := H11) (a := p12) (o := .tup [V.str "read", V.int 7])
  generalize upd H11 p12 (.tup [V.str "read", V.int 7]) = H12 at U ep12 ⊢
  replace hR := hR.same U
  replace DK := DK.same U
  replace FK := FK.same U
  replace SS := SS.trans U
  replace eR := U _ _ eR
  replace eS := U _ _ eS
  replace aS := aS.same U
  replace op10 := op10.same U
  replace op11 := op11.same U
  have op12 : Ok S H12 (.ref p12) := Ok.tup ep12 (Nat.le_of_ble_eq_true rfl) (All.cons (Ok.str (by decide +kernel)) (All.cons (Ok.int 7) All.nil))
  clear U np12 hp12 ep12
  try clear H11
  walk_at "vs"
  intro p13 hp13
  have U := same_new (.tup [V.str "read", V.str "a1"]) hp13
  have np13 := FK.fresh hp13
  have ep13 := upd_same (H := H12) (a := p13) (o := .tup [V.str "read", V.str "a1"])
  generalize upd H12 p13 (.tup [V.str "read", V.str "a1"]) = H13 at U ep13 ⊢
  replace hR := hR.same U
  replace DK := DK.same U
  replace FK := FK.same U
  replace SS := SS.trans U
  replace eR := U _ _ eR
  replace eS := U _ _ eS
  replace aS := aS.same U
  replace op10 := op10.same U
  replace op11 := op11.same U
  replace op12 := op12.same U
  have op13 : Ok S H13 (.ref p13) := Ok.tup ep13 (Nat.le_of_ble_eq_true rfl) (All.cons (Ok.str (by decide +kernel)) (All.cons (Ok.str (by decide +kernel)) All.nil))
  clear U np13 hp13 ep13
  try clear H12
  walk_at "vs"
  intro p14 hp14
  have U := same_new (.tup [V.str "number", V.int 1, V.int 2]) hp14
  have np14 := FK.fresh hp14
  have ep14 := upd_same (H := H13) (a := p14) (o := .tup [V.str "number", V.int 1, V.int 2])
  generalize upd H13 p14 (.tup [V.str "number", V.int 1, V.int 2]) = H14 at U ep14 ⊢
  replace hR := hR.same U
  replace DK := DK.same U
  replace FK := FK.same U
  replace SS := SS.trans U
  replace eR := U _ _ eR
  replace eS := U _ _ eS
  replace aS := aS.same U
  replace op10 := op10.same U
  replace op11 := op11.same U
  replace op12 := op12.same U
  replace op13 := op13.same U
  have op14 : Ok S H14 (.ref p14) := Ok.tup ep14 (Nat.le_of_ble_eq_true rfl) (All.cons (Ok.str (by decide +kernel)) (All.cons (Ok.int 1) (All.cons (Ok.int 2) All.nil)))
  clear U np14 hp14 ep14
  try clear H13
  walk_at "vs"
  intro p15 hp15
  have U := same_new (.tup [V.str "plus", V.ref a]) hp15
  have np15 := FK.fresh hp15
  have ep15 := upd_same (H := H14) (a := p15) (o := .tup [V.str "plus", V.ref a])
  generalize upd H14 p15 (.tup [V.str "plus", V.ref a]) = H15 at U ep15 ⊢
  replace hR := hR.same U
  replace DK := DK.same U
  replace FK := FK.same U
  replace SS := SS.trans U
  replace eR := U _ _ eR
  replace eS := U _ _ eS
  replace aS := aS.same U
  replace op10 := op10.same U
  replace op11 := op11.same U
  replace op12 := op12.same U
  replace op13 := op13.same U
  replace op14 := op14.same U
  have op15 : Ok S H15 (.ref p15) := Ok.tup ep15 (Nat.le_of_ble_eq_true rfl) (All.cons (Ok.str (by decide +kernel)) (All.cons (hR.ok hg) All.nil))
  clear U np15 hp15 ep15
  try clear H14
  walk_at "vs"
  intro p16 hp16
  have U := same_new (.lst [V.ref p10, V.ref p11, V.ref p12, V.ref p13, V.ref p14, V.ref p15]) hp16
  have np16 := FK.fresh hp16
  have ep16 := upd_same (H := H15) (a := p16) (o := .lst [V.ref p10, V.ref p11, V.ref p12, V.ref p13, V.ref p14, V.ref p15])
  generalize upd H15 p16 (.lst [V.ref p10, V.ref p11, V.ref p12, V.ref p13, V.ref p14, V.ref p15]) = H16 at U ep16 ⊢
  replace hR := hR.same U
  replace DK := DK.same U
  replace FK := FK.same U
  replace SS := SS.trans U
  replace eR := U _ _ eR
  replace eS := U _ _ eS
  replace aS := aS.same U
  replace op10 := op10.same U
  replace op11 := op11.same U
  replace op12 := op12.same U
  replace op13 := op13.same U
  replace op14 := op14.same U
  replace op15 := op15.same U
  have aN : All S H16 [V.ref p10, V.ref p11, V.ref p12, V.ref p13, V.ref p14, V.ref p15] := (All.cons op10 (All.cons op11 (All.cons op12 (All.cons op13 (All.cons op14 (All.cons op15 All.nil))))))
  have lN : [V.ref p10, V.ref p11, V.ref p12, V.ref p13, V.ref p14, V.ref p15].length = 6 := rfl
  generalize [V.ref p10, V.ref p11, V.ref p12, V.ref p13, V.ref p14, V.ref p15] = LN at ep16 aN lN
  have hcat : L.length + LN.length ≤ sizeLine := Nat.le_of_lt (small1000 (by omega))
  walk_at "vs"
  intro p17 hp17
  have U := same_new (.lst (L ++ LN)) hp17
  replace nS := FK.fresh hp17
  replace aS := (aS.append aN).same U
  replace lS : (L ++ LN).length = 18 := by rw [List.length_append]; omega
  clear eS
  have eS := upd_same (H := H16) (a := p17) (o := .lst (L ++ LN))
  generalize upd H16 p17 (.lst (L ++ LN)) = H17 at U eS aS ⊢
  replace hR := hR.same U
  replace DK := DK.same U
  replace FK := FK.same U
  replace SS := SS.trans U
  replace eR := U _ _ eR
  generalize L ++ LN = L17 at eS aS lS
  clear hcat aN lN ep16 hp16 np16 hp17
  clear op10 op11 op12 op13 op14 op15
  try clear H16
  try clear H15
  clear U
  have hLL : True := trivial
  clear hLL
  walk_at "vs"
  intro p18 hp18
  have U := same_new (.tup [V.str "plus", V.ref a, V.ref a, V.ref a]) hp18
  have np18 := FK.fresh hp18
  have ep18 := upd_same (H := H17) (a := p18) (o := .tup [V.str "plus", V.ref a, V.ref a, V.ref a])
  generalize upd H17 p18 (.tup [V.str "plus", V.ref a, V.ref a, V.ref a]) = H18 at U ep18 ⊢
  replace hR := hR.same U
  replace DK := DK.same U
  replace FK := FK.same U
  replace SS := SS.trans U
  replace eR := U _ _ eR
  replace eS := U _ _ eS
  replace aS := aS.same U
  have op18 : Ok S H18 (.ref p18) := Ok.tup ep18 (Nat.le_of_ble_eq_true rfl) (All.cons (Ok.str (by decide +kernel)) (All.cons (hR.ok hg) (All.cons (hR.ok hg) (All.cons (hR.ok hg) All.nil))))
  clear U np18 hp18 ep18
  try clear H17
  walk_at "vs"
  intro p19 hp19
  have U := same_new (.tup [V.str "pick", V.ref a, V.ref a]) hp19
  have np19 := FK.fresh hp19
  have ep19 := upd_same (H := H18) (a := p19) (o := .tup [V.str "pick", V.ref a, V.ref a])
  generalize upd H18 p19 (.tup [V.str "pick", V.ref a, V.ref a]) = H19 at U ep19 ⊢
  replace hR := hR.same U
  replace DK := DK.same U
  replace FK := FK.same U
  replace SS := SS.trans U
  replace eR := U _ _ eR
  replace eS := U _ _ eS
  replace aS := aS.same U
  replace op18 := op18.same U
  have op19 : Ok S H19 (.ref p19) := Ok.tup ep19 (Nat.le_of_ble_eq_true rfl) (All.cons (Ok.str (by decide +kernel)) (All.cons (hR.ok hg) (All.cons (hR.ok hg) All.nil)))
  clear U np19 hp19 ep19
  try clear H18
  walk_at "vs"
  intro p20 hp20
  have U := same_new (.tup [V.str "pick", V.ref a, V.ref a, V.ref a, V.ref a]) hp20
  have np20 := FK.fresh hp20
  have ep20 := upd_same (H := H19) (a := p20) (o := .tup [V.str "pick", V.ref a, V.ref a, V.ref a, V.ref a])
  generalize upd H19 p20 (.tup [V.str "pick", V.ref a, V.ref a, V.ref a, V.ref a]) = H20 at U ep20 ⊢
  replace hR := hR.same U
  replace DK := DK.same U
  replace FK := FK.same U
  replace SS := SS.trans U
  replace eR := U _ _ eR
  replace eS := U _ _ eS
  replace aS := aS.same U
  replace op18 := op18.same U
  replace op19 := op19.same U
  have op20 : Ok S H20 (.ref p20) := Ok.tup ep20 (Nat.le_of_ble_eq_true rfl) (All.cons (Ok.str (by decide +kernel)) (All.cons (hR.ok hg) (All.cons (hR.ok hg) (All.cons (hR.ok hg) (All.cons (hR.ok hg) All.nil)))))
  clear U np20 hp20 ep20
  try clear H19
  walk_at "vs"
  intro p21 hp21
  have U := same_new (.tup []) hp21
  have np21 := FK.fresh hp21
  have ep21 := upd_same (H := H20) (a := p21) (o := .tup [])
  generalize upd H20 p21 (.tup []) = H21 at U ep21 ⊢
  replace hR := hR.same U
  replace DK := DK.same U
  replace FK := FK.same U
  replace SS := SS.trans U
  replace eR := U _ _ eR
  replace eS := U _ _ eS
  replace aS := aS.same U
  replace op18 := op18.same U
  replace op19 := op19.same U
  replace op20 := op20.same U
  have op21 : Ok S H21 (.ref p21) := Ok.tup ep21 (Nat.le_of_ble_eq_true rfl) All.nil
  clear U np21 hp21 ep21
  try clear H20
  walk_at "vs"
  intro p22 hp22
  have U := same_new (.tup [V.str "choose", V.ref a, V.ref p21]) hp22
  have np22 := FK.fresh hp22
  have ep22 := upd_same (H := H21) (a := p22) (o := .tup [V.str "choose", V.ref a, V.ref p21])
  generalize upd H21 p22 (.tup [V.str "choose", V.ref a, V.ref p21]) = H22 at U ep22 ⊢
  replace hR := hR.same U
  replace DK := DK.same U
  replace FK := FK.same U
  replace SS := SS.trans U
  replace eR := U _ _ eR
  replace eS := U _ _ eS
  replace aS := aS.same U
  replace op18 := op18.same U
  replace op19 := op19.same U
  replace op20 := op20.same U
  replace op21 := op21.same U
  have op22 : Ok S H22 (.ref p22) := Ok.tup ep22 (Nat.le_of_ble_eq_true rfl) (All.cons (Ok.str (by decide +kernel)) (All.cons (hR.ok hg) (All.cons op21 All.nil)))
  clear U np22 hp22 ep22
  try clear H21
  walk_at "vs"
  intro p23 hp23
  have U := same_new (.lst [V.str "a"]) hp23
  have np23 := FK.fresh hp23
  have ep23 := upd_same (H := H22) (a := p23) (o := .lst [V.str "a"])
  generalize upd H22 p23 (.lst [V.str "a"]) = H23 at U ep23 ⊢
  replace hR := hR.same U
  replace DK := DK.same U
  replace FK := FK.same U
  replace SS := SS.trans U
  replace eR := U _ _ eR
  replace eS := U _ _ eS
  replace aS := aS.same U
  replace op18 := op18.same U
  replace op19 := op19.same U
  replace op20 := op20.same U
  replace op21 := op21.same U
  replace op22 := op22.same U
  have op23 : Ok S H23 (.ref p23) := Ok.lst ep23 np23
  clear U np23 hp23 ep23
  try clear H22
  walk_at "vs"
  intro p24 hp24
  have U := same_new (.tup [V.str "choose", V.ref a, V.ref p23]) hp24
  have np24 := FK.fresh hp24
  have ep24 := upd_same (H := H23) (a := p24) (o := .tup [V.str "choose", V.ref a, V.ref p23])
  generalize upd H23 p24 (.tup [V.str "choose", V.ref a, V.ref p23]) = H24 at U ep24 ⊢
  replace hR := hR.same U
  replace DK := DK.same U
  replace FK := FK.same U
  replace SS := SS.trans U
  replace eR := U _ _ eR
  replace eS := U _ _ eS
  replace aS := aS.same U
  replace op18 := op18.same U
  replace op19 := op19.same U
  replace op20 := op20.same U
  replace op21 := op21.same U
  replace op22 := op22.same U
  replace op23 := op23.same U
  have op24 : Ok S H24 (.ref p24) := Ok.tup ep24 (Nat.le_of_ble_eq_true rfl) (All.cons (Ok.str (by decide +kernel)) (All.cons (hR.ok hg) (All.cons op23 All.nil)))
  clear U np24 hp24 ep24
  try clear H23
  walk_at "vs"
  intro p25 hp25
  have U := same_new (.lst [V.ref p18, V.ref p19, V.ref p20, V.ref p22, V.ref p24]) hp25
  have np25 := FK.fresh hp25
  have ep25 := upd_same (H := H24) (a := p25) (o := .lst [V.ref p18, V.ref p19, V.ref p20, V.ref p22, V.ref p24])
  generalize upd H24 p25 (.lst [V.ref p18, V.ref p19, V.ref p20, V.ref p22, V.ref p24]) = H25 at U ep25 ⊢
  replace hR := hR.same U
  replace DK := DK.same U
  replace FK := FK.same U
  replace SS := SS.trans U
  replace eR := U _ _ eR
  replace eS := U _ _ eS
  replace aS := aS.same U
  replace op18 := op18.same U
  replace op19 := op19.same U
  replace op20 := op20.same U
  replace op21 := op21.same U
  replace op22 := op22.same U
  replace op23 := op23.same U
  replace op24 := op24.same U
  have aN : All S H25 [V.ref p18, V.ref p19, V.ref p20, V.ref p22, V.ref p24] := (All.cons op18 (All.cons op19 (All.cons op20 (All.cons op22 (All.cons op24 All.nil)))))
  have lN : [V.ref p18, V.ref p19, V.ref p20, V.ref p22, V.ref p24].length = 5 := rfl
  generalize [V.ref p18, V.ref p19, V.ref p20, V.ref p22, V.ref p24] = LN at ep25 aN lN
  have hcat : L17.length + LN.length ≤ sizeLine := Nat.le_of_lt (small1000 (by omega))
  walk_at "vs"
  intro p26 hp26
  have U := same_new (.lst (L17 ++ LN)) hp26
  replace nS := FK.fresh hp26
  replace aS := (aS.append aN).same U
  replace lS : (L17 ++ LN).length = 23 := by rw [List.length_append]; omega
  clear eS
  have eS := upd_same (H := H25) (a := p26) (o := .lst (L17 ++ LN))
  generalize upd H25 p26 (.lst (L17 ++ LN)) = H26 at U eS aS ⊢
  replace hR := hR.same U
  replace DK := DK.same U
  replace FK := FK.same U
  replace SS := SS.trans U
  replace eR := U _ _ eR
  generalize L17 ++ LN = L26 at eS aS lS
  clear hcat aN lN ep25 hp25 np25 hp26
  clear op18 op19 op20 op21 op22 op23 op24
  try clear H25
  try clear H24
  clear U
  have hLL : True := trivial
  clear hLL
  walk_at "vs"
  intro p27 hp27
  have U := same_new (.tup [V.str "a"]) hp27
  have np27 := FK.fresh hp27
  have ep27 := upd_same (H := H26) (a := p27) (o := .tup [V.str "a"])
  generalize upd H26 p27 (.tup [V.str "a"]) = H27 at U ep27 ⊢
  replace hR := hR.same U
  replace DK := DK.same U
  replace FK := FK.same U
  replace SS := SS.trans U
  replace eR := U _ _ eR
  replace eS := U _ _ eS
  replace aS := aS.same U
  have op27 : Ok S H27 (.ref p27) := Ok.tup ep27 (Nat.le_of_ble_eq_true rfl) (All.cons (Ok.str (by decide +kernel)) All.nil)
  clear U np27 hp27
  try clear H26
  have hrep : [V.str "a"].length * Int.toNat 10 ≤ sizeLine := Nat.le_of_lt (small1000 (by decide))
  walk_at "vs"
  intro p28 H28 U ep28
  replace hR := hR.same U
  replace DK := DK.same U
  replace FK := FK.same U
  replace SS := SS.trans U
  replace eR := U _ _ eR
  replace eS := U _ _ eS
  replace aS := aS.same U
  replace op27 := op27.same U
  replace ep27 := U _ _ ep27
  have op28 : Ok S H28 (.ref p28) := Ok.tup ep28 (Nat.le_of_ble_eq_true rfl) rep_ok
  clear U
  try clear H27
  walk_at "vs"
  intro p29 hp29
  have U := same_new (.tup [V.str "choose", V.ref a, V.ref p28]) hp29
  have np29 := FK.fresh hp29
  have ep29 := upd_same (H := H28) (a := p29) (o := .tup [V.str "choose", V.ref a, V.ref p28])
  generalize upd H28 p29 (.tup [V.str "choose", V.ref a, V.ref p28]) = H29 at U ep29 ⊢
  replace hR := hR.same U
  replace DK := DK.same U
  replace FK := FK.same U
  replace SS := SS.trans U
  replace eR := U _ _ eR
  replace eS := U _ _ eS
  replace aS := aS.same U
  replace op27 := op27.same U
  replace op28 := op28.same U
  replace ep27 := U _ _ ep27
  have op29 : Ok S H29 (.ref p29) := Ok.tup ep29 (Nat.le_of_ble_eq_true rfl) (All.cons (Ok.str (by decide +kernel)) (All.cons (hR.ok hg) (All.cons op28 All.nil)))
  clear U np29 hp29 ep29
  try clear H28
  walk_at "vs"
  intro p30 hp30
  have U := same_new (.tup [V.str "a", V.str ""]) hp30
  have np30 := FK.fresh hp30
  have ep30 := upd_same (H := H29) (a := p30) (o := .tup [V.str "a", V.str ""])
  generalize upd H29 p30 (.tup [V.str "a", V.str ""]) = H30 at U ep30 ⊢
  replace hR := hR.same U
  replace DK := DK.same U
  replace FK := FK.same U
  replace SS := SS.trans U
  replace eR := U _ _ eR
  replace eS := U _ _ eS
  replace aS := aS.same U
  replace op27 := op27.same U
  replace op28 := op28.same U
  replace op29 := op29.same U
  replace ep27 := U _ _ ep27
  have op30 : Ok S H30 (.ref p30) := Ok.tup ep30 (Nat.le_of_ble_eq_true rfl) (All.cons (Ok.str (by decide +kernel)) (All.cons (Ok.str (by decide +kernel)) All.nil))
  clear U np30 hp30 ep30
  try clear H29
  walk_at "vs"
  intro p31 hp31
  have U := same_new (.tup [V.str "choose", V.ref a, V.ref p30]) hp31
  have np31 := FK.fresh hp31
  have ep31 := upd_same (H := H30) (a := p31) (o := .tup [V.str "choose", V.ref a, V.ref p30])
  generalize upd H30 p31 (.tup [V.str "choose", V.ref a, V.ref p30]) = H31 at U ep31 ⊢
  replace hR := hR.same U
  replace DK := DK.same U
  replace FK := FK.same U
  replace SS := SS.trans U
  replace eR := U _ _ eR
  replace eS := U _ _ eS
  replace aS := aS.same U
  replace op27 := op27.same U
  replace op28 := op28.same U
  replace op29 := op29.same U
  replace op30 := op30.same U
  replace ep27 := U _ _ ep27
  have op31 : Ok S H31 (.ref p31) := Ok.tup ep31 (Nat.le_of_ble_eq_true rfl) (All.cons (Ok.str (by decide +kernel)) (All.cons (hR.ok hg) (All.cons op30 All.nil)))
  clear U np31 hp31 ep31
  try clear H30
  walk_at "vs"
  intro p32 hp32
  have U := same_new (.tup [V.str "choose", V.ref a]) hp32
  have np32 := FK.fresh hp32
  have ep32 := upd_same (H := H31) (a := p32) (o := .tup [V.str "choose", V.ref a])
  generalize upd H31 p32 (.tup [V.str "choose", V.ref a]) = H32 at U ep32 ⊢
  replace hR := hR.same U
  replace DK := DK.same U
  replace FK := FK.same U
  replace SS := SS.trans U
  replace eR := U _ _ eR
  replace eS := U _ _ eS
  replace aS := aS.same U
  replace op27 := op27.same U
  replace op28 := op28.same U
  replace op29 := op29.same U
  replace op30 := op30.same U
  replace op31 := op31.same U
  replace ep27 := U _ _ ep27
  have op32 : Ok S H32 (.ref p32) := Ok.tup ep32 (Nat.le_of_ble_eq_true rfl) (All.cons (Ok.str (by decide +kernel)) (All.cons (hR.ok hg) All.nil))
  clear U np32 hp32 ep32
  try clear H31
  walk_at "vs"
  intro p33 hp33
  have U := same_new (.tup [V.str "choose", V.ref a, V.str "a"]) hp33
  have np33 := FK.fresh hp33
  have ep33 := upd_same (H := H32) (a := p33) (o := .tup [V.str "choose", V.ref a, V.str "a"])
  generalize upd H32 p33 (.tup [V.str "choose", V.ref a, V.str "a"]) = H33 at U ep33 ⊢
  replace hR := hR.same U
  replace DK := DK.same U
  replace FK := FK.same U
  replace SS := SS.trans U
  replace eR := U _ _ eR
  replace eS := U _ _ eS
  replace aS := aS.same U
  replace op27 := op27.same U
  replace op28 := op28.same U
  replace op29 := op29.same U
  replace op30 := op30.same U
  replace op31 := op31.same U
  replace op32 := op32.same U
  replace ep27 := U _ _ ep27
  have op33 : Ok S H33 (.ref p33) := Ok.tup ep33 (Nat.le_of_ble_eq_true rfl) (All.cons (Ok.str (by decide +kernel)) (All.cons (hR.ok hg) (All.cons (Ok.str (by decide +kernel)) All.nil)))
  clear U np33 hp33 ep33
  try clear H32
  walk_at "vs"
  intro p34 hp34
  have U := same_new (.lst ws) hp34
  have np34 := FK.fresh hp34
  have ep34 := upd_same (H := H33) (a := p34) (o := .lst ws)
  generalize upd H33 p34 (.lst ws) = H34 at U ep34 ⊢
  replace hR := hR.same U
  replace DK := DK.same U
  replace FK := FK.same U
  replace SS := SS.trans U
  replace eR := U _ _ eR
  replace eS := U _ _ eS
  replace aS := aS.same U
  replace op27 := op27.same U
  replace op28 := op28.same U
  replace op29 := op29.same U
  replace op30 := op30.same U
  replace op31 := op31.same U
  replace op32 := op32.same U
  replace op33 := op33.same U
  replace ep27 := U _ _ ep27
  have op34 : Ok S H34 (.ref p34) := Ok.lst ep34 np34
  clear U np34 hp34 ep34
  try clear H33
  walk_at "vs"
  intro p35 hp35
  have U := same_new (.lst [V.ref p29, V.ref p31, V.ref p32, V.ref p33, V.ref p34]) hp35
  have np35 := FK.fresh hp35
  have ep35 := upd_same (H := H34) (a := p35) (o := .lst [V.ref p29, V.ref p31, V.ref p32, V.ref p33, V.ref p34])
  generalize upd H34 p35 (.lst [V.ref p29, V.ref p31, V.ref p32, V.ref p33, V.ref p34]) = H35 at U ep35 ⊢
  replace hR := hR.same U
  replace DK := DK.same U
  replace FK := FK.same U
  replace SS := SS.trans U
  replace eR := U _ _ eR
  replace eS := U _ _ eS
  replace aS := aS.same U
  replace op27 := op27.same U
  replace op28 := op28.same U
  replace op29 := op29.same U
  replace op30 := op30.same U
  replace op31 := op31.same U
  replace op32 := op32.same U
  replace op33 := op33.same U
  replace op34 := op34.same U
  replace ep27 := U _ _ ep27
  have aN : All S H35 [V.ref p29, V.ref p31, V.ref p32, V.ref p33, V.ref p34] := (All.cons op29 (All.cons op31 (All.cons op32 (All.cons op33 (All.cons op34 All.nil)))))
  have lN : [V.ref p29, V.ref p31, V.ref p32, V.ref p33, V.ref p34].length = 5 := rfl
  generalize [V.ref p29, V.ref p31, V.ref p32, V.ref p33, V.ref p34] = LN at ep35 aN lN
  have hcat : L26.length + LN.length ≤ sizeLine := Nat.le_of_lt (small1000 (by omega))
  walk_at "vs"
  intro p36 hp36
  have U := same_new (.lst (L26 ++ LN)) hp36
  replace nS := FK.fresh hp36
  replace aS := (aS.append aN).same U
  replace lS : (L26 ++ LN).length = 28 := by rw [List.length_append]; omega
  clear eS
  have eS := upd_same (H := H35) (a := p36) (o := .lst (L26 ++ LN))
  generalize upd H35 p36 (.lst (L26 ++ LN)) = H36 at U eS aS ⊢
  replace hR := hR.same U
  replace DK := DK.same U
  replace FK := FK.same U
  replace SS := SS.trans U
  replace eR := U _ _ eR
  generalize L26 ++ LN = L36 at eS aS lS
  clear hcat aN lN ep35 hp35 np35 hp36
  clear op27 op28 op29 op30 op31 op32 op33 op34
  clear ep27
  try clear H35
  try clear H34
  clear U
  have hLL : True := trivial
  clear hLL
  walk_at "vs"
  intro p37 hp37
  have U := same_new (.tup [V.str "add", V.ref a, V.ref a]) hp37
  have np37 := FK.fresh hp37
  have ep37 := upd_same (H := H36) (a := p37) (o := .tup [V.str "add", V.ref a, V.ref a])
  generalize upd H36 p37 (.tup [V.str "add", V.ref a, V.ref a]) = H37 at U ep37 ⊢
  replace hR := hR.same U
  replace DK := DK.same U
  replace FK := FK.same U
  replace SS := SS.trans U
  replace eR := U _ _ eR
  replace eS := U _ _ eS
  replace aS := aS.same U
  have op37 : Ok S H37 (.ref p37) := Ok.tup ep37 (Nat.le_of_ble_eq_true rfl) (All.cons (Ok.str (by decide +kernel)) (All.cons (hR.ok hg) (All.cons (hR.ok hg) All.nil)))
  clear U np37 hp37 ep37
  try clear H36
  walk_at "vs"
  intro p38 hp38
  have U := same_new (.lst [V.str "plus"]) hp38
  have np38 := FK.fresh hp38
  have ep38 := upd_same (H := H37) (a := p38) (o := .lst [V.str "plus"])
  generalize upd H37 p38 (.lst [V.str "plus"]) = H38 at U ep38 ⊢
  replace hR := hR.same U
  replace DK := DK.same U
  replace FK := FK.same U
  replace SS := SS.trans U
  replace eR := U _ _ eR
  replace eS := U _ _ eS
  replace aS := aS.same U
  replace op37 := op37.same U
  have op38 : Ok S H38 (.ref p38) := Ok.lst ep38 np38
  clear U np38 hp38 ep38
  try clear H37
  walk_at "vs"
  intro p39 hp39
  have U := same_new (.tup [V.ref p38, V.ref a, V.ref a]) hp39
  have np39 := FK.fresh hp39
  have ep39 := upd_same (H := H38) (a := p39) (o := .tup [V.ref p38, V.ref a, V.ref a])
  generalize upd H38 p39 (.tup [V.ref p38, V.ref a, V.ref a]) = H39 at U ep39 ⊢
  replace hR := hR.same U
  replace DK := DK.same U
  replace FK := FK.same U
  replace SS := SS.trans U
  replace eR := U _ _ eR
  replace eS := U _ _ eS
  replace aS := aS.same U
  replace op37 := op37.same U
  replace op38 := op38.same U
  have op39 : Ok S H39 (.ref p39) := Ok.tup ep39 (Nat.le_of_ble_eq_true rfl) (All.cons op38 (All.cons (hR.ok hg) (All.cons (hR.ok hg) All.nil)))
  clear U np39 hp39 ep39
  try clear H38
  walk_at "vs"
  intro p40 hp40
  have U := same_new (.tup [V.non, V.ref a]) hp40
  have np40 := FK.fresh hp40
  have ep40 := upd_same (H := H39) (a := p40) (o := .tup [V.non, V.ref a])
  generalize upd H39 p40 (.tup [V.non, V.ref a]) = H40 at U ep40 ⊢
  replace hR := hR.same U
  replace DK := DK.same U
  replace FK := FK.same U
  replace SS := SS.trans U
  replace eR := U _ _ eR
  replace eS := U _ _ eS
  replace aS := aS.same U
  replace op37 := op37.same U
  replace op38 := op38.same U
  replace op39 := op39.same U
  have op40 : Ok S H40 (.ref p40) := Ok.tup ep40 (Nat.le_of_ble_eq_true rfl) (All.cons Ok.non (All.cons (hR.ok hg) All.nil))
  clear U np40 hp40 ep40
  try clear H39
  walk_at "vs"
  intro p41 hp41
  have U := same_new (.tup [V.str "most", V.ref a, V.non]) hp41
  have np41 := FK.fresh hp41
  have ep41 := upd_same (H := H40) (a := p41) (o := .tup [V.str "most", V.ref a, V.non])
  generalize upd H40 p41 (.tup [V.str "most", V.ref a, V.non]) = H41 at U ep41 ⊢
  replace hR := hR.same U
  replace DK := DK.same U
  replace FK := FK.same U
  replace SS := SS.trans U
  replace eR := U _ _ eR
  replace eS := U _ _ eS
  replace aS := aS.same U
  replace op37 := op37.same U
  replace op38 := op38.same U
  replace op39 := op39.same U
  replace op40 := op40.same U
  have op41 : Ok S H41 (.ref p41) := Ok.tup ep41 (Nat.le_of_ble_eq_true rfl) (All.cons (Ok.str (by decide +kernel)) (All.cons (hR.ok hg) (All.cons Ok.non All.nil)))
  clear U np41 hp41 ep41
  try clear H40
  walk_at "vs"
  intro p42 hp42
  have U := same_new (.tup [V.ref a]) hp42
  have np42 := FK.fresh hp42
  have ep42 := upd_same (H := H41) (a := p42) (o := .tup [V.ref a])
  generalize upd H41 p42 (.tup [V.ref a]) = H42 at U ep42 ⊢
  replace hR := hR.same U
  replace DK := DK.same U
  replace FK := FK.same U
  replace SS := SS.trans U
  replace eR := U _ _ eR
  replace eS := U _ _ eS
  replace aS := aS.same U
  replace op37 := op37.same U
  replace op38 := op38.same U
  replace op39 := op39.same U
  replace op40 := op40.same U
  replace op41 := op41.same U
  have op42 : Ok S H42 (.ref p42) := Ok.tup ep42 (Nat.le_of_ble_eq_true rfl) (All.cons (hR.ok hg) All.nil)
  clear U np42 hp42 ep42
  try clear H41
  walk_at "vs"
  intro p43 hp43
  have U := same_new (.tup [V.str "number", V.non]) hp43
  have np43 := FK.fresh hp43
  have ep43 := upd_same (H := H42) (a := p43) (o := .tup [V.str "number", V.non])
  generalize upd H42 p43 (.tup [V.str "number", V.non]) = H43 at U ep43 ⊢
  replace hR := hR.same U
  replace DK := DK.same U
  replace FK := FK.same U
  replace SS := SS.trans U
  replace eR := U _ _ eR
  replace eS := U _ _ eS
  replace aS := aS.same U
  replace op37 := op37.same U
  replace op38 := op38.same U
  replace op39 := op39.same U
  replace op40 := op40.same U
  replace op41 := op41.same U
  replace op42 := op42.same U
  have op43 : Ok S H43 (.ref p43) := Ok.tup ep43 (Nat.le_of_ble_eq_true rfl) (All.cons (Ok.str (by decide +kernel)) (All.cons Ok.non All.nil))
  clear U np43 hp43 ep43
  try clear H42
  walk_at "vs"
  intro p44 hp44
  have U := same_new (.tup [V.ref a, V.ref a, V.ref a]) hp44
  have np44 := FK.fresh hp44
  have ep44 := upd_same (H := H43) (a := p44) (o := .tup [V.ref a, V.ref a, V.ref a])
  generalize upd H43 p44 (.tup [V.ref a, V.ref a, V.ref a]) = H44 at U ep44 ⊢
  replace hR := hR.same U
  replace DK := DK.same U
  replace FK := FK.same U
  replace SS := SS.trans U
  replace eR := U _ _ eR
  replace eS := U _ _ eS
  replace aS := aS.same U
  replace op37 := op37.same U
  replace op38 := op38.same U
  replace op39 := op39.same U
  replace op40 := op40.same U
  replace op41 := op41.same U
  replace op42 := op42.same U
  replace op43 := op43.same U
  have op44 : Ok S H44 (.ref p44) := Ok.tup ep44 (Nat.le_of_ble_eq_true rfl) (All.cons (hR.ok hg) (All.cons (hR.ok hg) (All.cons (hR.ok hg) All.nil)))
  clear U np44 hp44 ep44
  try clear H43
  walk_at "vs"
  intro p45 hp45
  have U := same_new (.lst [V.ref p37, V.ref p39, V.ref p40, V.ref p41, V.ref p42, V.ref p43, V.ref p44]) hp45
  have np45 := FK.fresh hp45
  have ep45 := upd_same (H := H44) (a := p45) (o := .lst [V.ref p37, V.ref p39, V.ref p40, V.ref p41, V.ref p42, V.ref p43, V.ref p44])
  generalize upd H44 p45 (.lst [V.ref p37, V.ref p39, V.ref p40, V.ref p41, V.ref p42, V.ref p43, V.ref p44]) = H45 at U ep45 ⊢
  replace hR := hR.same U
  replace DK := DK.same U
  replace FK := FK.same U
  replace SS := SS.trans U
  replace eR := U _ _ eR
  replace eS := U _ _ eS
  replace aS := aS.same U
  replace op37 := op37.same U
  replace op38 := op38.same U
  replace op39 := op39.same U
  replace op40 := op40.same U
  replace op41 := op41.same U
  replace op42 := op42.same U
  replace op43 := op43.same U
  replace op44 := op44.same U
  have aN : All S H45 [V.ref p37, V.ref p39, V.ref p40, V.ref p41, V.ref p42, V.ref p43, V.ref p44] := (All.cons op37 (All.cons op39 (All.cons op40 (All.cons op41 (All.cons op42 (All.cons op43 (All.cons op44 All.nil)))))))
  have lN : [V.ref p37, V.ref p39, V.ref p40, V.ref p41, V.ref p42, V.ref p43, V.ref p44].length = 7 := rfl
  generalize [V.ref p37, V.ref p39, V.ref p40, V.ref p41, V.ref p42, V.ref p43, V.ref p44] = LN at ep45 aN lN
  have hcat : L36.length + LN.length ≤ sizeLine := Nat.le_of_lt (small1000 (by omega))
  walk_at "vs"
  intro p46 hp46
  have U := same_new (.lst (L36 ++ LN)) hp46
  replace nS := FK.fresh hp46
  replace aS := (aS.append aN).same U
  replace lS : (L36 ++ LN).length = 35 := by rw [List.length_append]; omega
  clear eS
  have eS := upd_same (H := H45) (a := p46) (o := .lst (L36 ++ LN))
  generalize upd H45 p46 (.lst (L36 ++ LN)) = H46 at U eS aS ⊢
  replace hR := hR.same U
  replace DK := DK.same U
  replace FK := FK.same U
  replace SS := SS.trans U
  replace eR := U _ _ eR
  generalize L36 ++ LN = L46 at eS aS lS
  clear hcat aN lN ep45 hp45 np45 hp46
  clear op37 op38 op39 op40 op41 op42 op43 op44
  try clear H45
  try clear H44
  clear U
  have hLL : True := trivial
  clear hLL
  walk_at "vs"
  intro p47 hp47
  have U := same_new (.tup [V.str "a"]) hp47
  have np47 := FK.fresh hp47
  have ep47 := upd_same (H := H46) (a := p47) (o := .tup [V.str "a"])
  generalize upd H46 p47 (.tup [V.str "a"]) = H47 at U ep47 ⊢
  replace hR := hR.same U
  replace DK := DK.same U
  replace FK := FK.same U
  replace SS := SS.trans U
  replace eR := U _ _ eR
  replace eS := U _ _ eS
  replace aS := aS.same U
  have op47 : Ok S H47 (.ref p47) := Ok.tup ep47 (Nat.le_of_ble_eq_true rfl) (All.cons (Ok.str (by decide +kernel)) All.nil)
  clear U np47 hp47 ep47
  try clear H46
  walk_at "vs"
  intro p48 hp48
  have U := same_new (.tup [V.str "a"]) hp48
  have np48 := FK.fresh hp48
  have ep48 := upd_same (H := H47) (a := p48) (o := .tup [V.str "a"])
  generalize upd H47 p48 (.tup [V.str "a"]) = H48 at U ep48 ⊢
  replace hR := hR.same U
  replace DK := DK.same U
  replace FK := FK.same U
  replace SS := SS.trans U
  replace eR := U _ _ eR
  replace eS := U _ _ eS
  replace aS := aS.same U
  replace op47 := op47.same U
  have op48 : Ok S H48 (.ref p48) := Ok.tup ep48 (Nat.le_of_ble_eq_true rfl) (All.cons (Ok.str (by decide +kernel)) All.nil)
  clear U np48 hp48 ep48
  try clear H47
  walk_at "vs"
  intro p49 hp49
  have U := same_new (.tup [V.str "choose", V.ref p47, V.ref p48]) hp49
  have np49 := FK.fresh hp49
  have ep49 := upd_same (H := H48) (a := p49) (o := .tup [V.str "choose", V.ref p47, V.ref p48])
  generalize upd H48 p49 (.tup [V.str "choose", V.ref p47, V.ref p48]) = H49 at U ep49 ⊢
  replace hR := hR.same U
  replace DK := DK.same U
  replace FK := FK.same U
  replace SS := SS.trans U
  replace eR := U _ _ eR
  replace eS := U _ _ eS
  replace aS := aS.same U
  replace op47 := op47.same U
  replace op48 := op48.same U
  have op49 : Ok S H49 (.ref p49) := Ok.tup ep49 (Nat.le_of_ble_eq_true rfl) (All.cons (Ok.str (by decide +kernel)) (All.cons op47 (All.cons op48 All.nil)))
  clear U np49 hp49 ep49
  try clear H48
  walk_at "vs"
  intro p50 hp50
  have U := same_new (.tup [V.str "x"]) hp50
  have np50 := FK.fresh hp50
  have ep50 := upd_same (H := H49) (a := p50) (o := .tup [V.str "x"])
  generalize upd H49 p50 (.tup [V.str "x"]) = H50 at U ep50 ⊢
  replace hR := hR.same U
  replace DK := DK.same U
  replace FK := FK.same U
  replace SS := SS.trans U
  replace eR := U _ _ eR
  replace eS := U _ _ eS
  replace aS := aS.same U
  replace op47 := op47.same U
  replace op48 := op48.same U
  replace op49 := op49.same U
  have op50 : Ok S H50 (.ref p50) := Ok.tup ep50 (Nat.le_of_ble_eq_true rfl) (All.cons (Ok.str (by decide +kernel)) All.nil)
  clear U np50 hp50 ep50
  try clear H49
  walk_at "vs"
  intro p51 hp51
  have U := same_new (.tup [V.str "read", V.ref p50]) hp51
  have np51 := FK.fresh hp51
  have ep51 := upd_same (H := H50) (a := p51) (o := .tup [V.str "read", V.ref p50])
  generalize upd H50 p51 (.tup [V.str "read", V.ref p50]) = H51 at U ep51 ⊢
  replace hR := hR.same U
  replace DK := DK.same U
  replace FK := FK.same U
  replace SS := SS.trans U
  replace eR := U _ _ eR
  replace eS := U _ _ eS
  replace aS := aS.same U
  replace op47 := op47.same U
  replace op48 := op48.same U
  replace op49 := op49.same U
  replace op50 := op50.same U
  have op51 : Ok S H51 (.ref p51) := Ok.tup ep51 (Nat.le_of_ble_eq_true rfl) (All.cons (Ok.str (by decide +kernel)) (All.cons op50 All.nil))
  clear U np51 hp51 ep51
  try clear H50
  walk_at "vs"
  intro p52 hp52
  have U := same_new (.lst []) hp52
  have np52 := FK.fresh hp52
  have ep52 := upd_same (H := H51) (a := p52) (o := .lst [])
  generalize upd H51 p52 (.lst []) = H52 at U ep52 ⊢
  replace hR := hR.same U
  replace DK := DK.same U
  replace FK := FK.same U
  replace SS := SS.trans U
  replace eR := U _ _ eR
  replace eS := U _ _ eS
  replace aS := aS.same U
  replace op47 := op47.same U
  replace op48 := op48.same U
  replace op49 := op49.same U
  replace op50 := op50.same U
  replace op51 := op51.same U
  have op52 : Ok S H52 (.ref p52) := Ok.lst ep52 np52
  clear U np52 hp52 ep52
  try clear H51
  walk_at "vs"
  intro p53 hp53
  have U := same_new (.tup [V.str "minus", V.ref p52, V.ref a]) hp53
  have np53 := FK.fresh hp53
  have ep53 := upd_same (H := H52) (a := p53) (o := .tup [V.str "minus", V.ref p52, V.ref a])
  generalize upd H52 p53 (.tup [V.str "minus", V.ref p52, V.ref a]) = H53 at U ep53 ⊢
  replace hR := hR.same U
  replace DK := DK.same U
  replace FK := FK.same U
  replace SS := SS.trans U
  replace eR := U _ _ eR
  replace eS := U _ _ eS
  replace aS := aS.same U
  replace op47 := op47.same U
  replace op48 := op48.same U
  replace op49 := op49.same U
  replace op50 := op50.same U
  replace op51 := op51.same U
  replace op52 := op52.same U
  have op53 : Ok S H53 (.ref p53) := Ok.tup ep53 (Nat.le_of_ble_eq_true rfl) (All.cons (Ok.str (by decide +kernel)) (All.cons op52 (All.cons (hR.ok hg) All.nil)))
  clear U np53 hp53 ep53
  try clear H52
  walk_at "vs"
  intro p54 hp54
  have U := same_new (.tup (cutV ws none (some 1))) hp54
  have np54 := FK.fresh hp54
  have ep54 := upd_same (H := H53) (a := p54) (o := .tup (cutV ws none (some 1)))
  generalize upd H53 p54 (.tup (cutV ws none (some 1))) = H54 at U ep54 ⊢
  replace hR := hR.same U
  replace DK := DK.same U
  replace FK := FK.same U
  replace SS := SS.trans U
  replace eR := U _ _ eR
  replace eS := U _ _ eS
  replace aS := aS.same U
  replace op47 := op47.same U
  replace op48 := op48.same U
  replace op49 := op49.same U
  replace op50 := op50.same U
  replace op51 := op51.same U
  replace op52 := op52.same U
  replace op53 := op53.same U
  have op54 : Ok S H54 (.ref p54) := Ok.tup ep54 (Nat.le_trans (cutV_length _ _ _) hw1000) (fun v hv => (wOk hR hg eR v (cut_mem hv)))
  clear U np54 hp54
  try clear H53
  walk_at "vs"
  intro p55 H55 U ep55
  replace hR := hR.same U
  replace DK := DK.same U
  replace FK := FK.same U
  replace SS := SS.trans U
  replace eR := U _ _ eR
  replace eS := U _ _ eS
  replace aS := aS.same U
  replace op47 := op47.same U
  replace op48 := op48.same U
  replace op49 := op49.same U
  replace op50 := op50.same U
  replace op51 := op51.same U
  replace op52 := op52.same U
  replace op53 := op53.same U
  replace op54 := op54.same U
  replace ep54 := U _ _ ep54
  have op55 : Ok S H55 (.ref p55) := Ok.tup ep55 (by rw [List.length_append]; have := cutV_length ws none (some 1); omega) (fun v hv => wOk hR hg eR v ((List.mem_append.mp hv).elim id cut_mem))
  clear U
  try clear H54
  walk_at "vs"
  intro p56 hp56
  have U := same_new (.tup (cutV ws (some 1) none)) hp56
  have np56 := FK.fresh hp56
  have ep56 := upd_same (H := H55) (a := p56) (o := .tup (cutV ws (some 1) none))
  generalize upd H55 p56 (.tup (cutV ws (some 1) none)) = H56 at U ep56 ⊢
  replace hR := hR.same U
  replace DK := DK.same U
  replace FK := FK.same U
  replace SS := SS.trans U
  replace eR := U _ _ eR
  replace eS := U _ _ eS
  replace aS := aS.same U
  replace op47 := op47.same U
  replace op48 := op48.same U
  replace op49 := op49.same U
  replace op50 := op50.same U
  replace op51 := op51.same U
  replace op52 := op52.same U
  replace op53 := op53.same U
  replace op54 := op54.same U
  replace op55 := op55.same U
  replace ep54 := U _ _ ep54
  have op56 : Ok S H56 (.ref p56) := Ok.tup ep56 (Nat.le_trans (cutV_length _ _ _) hw1000) (fun v hv => (wOk hR hg eR v (cut_mem hv)))
  clear U np56 hp56
  try clear H55
  walk_at "vs"
  intro p57 hp57
  have U := same_new (.tup [V.str "times", V.ref a, V.str "x"]) hp57
  have np57 := FK.fresh hp57
  have ep57 := upd_same (H := H56) (a := p57) (o := .tup [V.str "times", V.ref a, V.str "x"])
  generalize upd H56 p57 (.tup [V.str "times", V.ref a, V.str "x"]) = H57 at U ep57 ⊢
  replace hR := hR.same U
  replace DK := DK.same U
  replace FK := FK.same U
  replace SS := SS.trans U
  replace eR := U _ _ eR
  replace eS := U _ _ eS
  replace aS := aS.same U
  replace op47 := op47.same U
  replace op48 := op48.same U
  replace op49 := op49.same U
  replace op50 := op50.same U
  replace op51 := op51.same U
  replace op52 := op52.same U
  replace op53 := op53.same U
  replace op54 := op54.same U
  replace op55 := op55.same U
  replace op56 := op56.same U
  replace ep54 := U _ _ ep54
  replace ep56 := U _ _ ep56
  have op57 : Ok S H57 (.ref p57) := Ok.tup ep57 (Nat.le_of_ble_eq_true rfl) (All.cons (Ok.str (by decide +kernel)) (All.cons (hR.ok hg) (All.cons (Ok.str (by decide +kernel)) All.nil)))
  clear U np57 hp57 ep57
  try clear H56
  walk_at "vs"
  intro p58 hp58
  have U := same_new (.lst [V.ref p49, V.ref p51, V.ref p53, V.ref p55, V.ref p56, V.ref p57]) hp58
  have np58 := FK.fresh hp58
  have ep58 := upd_same (H := H57) (a := p58) (o := .lst [V.ref p49, V.ref p51, V.ref p53, V.ref p55, V.ref p56, V.ref p57])
  generalize upd H57 p58 (.lst [V.ref p49, V.ref p51, V.ref p53, V.ref p55, V.ref p56, V.ref p57]) = H58 at U ep58 ⊢
  replace hR := hR.same U
  replace DK := DK.same U
  replace FK := FK.same U
  replace SS := SS.trans U
  replace eR := U _ _ eR
  replace eS := U _ _ eS
  replace aS := aS.same U
  replace op47 := op47.same U
  replace op48 := op48.same U
  replace op49 := op49.same U
  replace op50 := op50.same U
  replace op51 := op51.same U
  replace op52 := op52.same U
  replace op53 := op53.same U
  replace op54 := op54.same U
  replace op55 := op55.same U
  replace op56 := op56.same U
  replace op57 := op57.same U
  replace ep54 := U _ _ ep54
  replace ep56 := U _ _ ep56
  have aN : All S H58 [V.ref p49, V.ref p51, V.ref p53, V.ref p55, V.ref p56, V.ref p57] := (All.cons op49 (All.cons op51 (All.cons op53 (All.cons op55 (All.cons op56 (All.cons op57 All.nil))))))
  have lN : [V.ref p49, V.ref p51, V.ref p53, V.ref p55, V.ref p56, V.ref p57].length = 6 := rfl
  generalize [V.ref p49, V.ref p51, V.ref p53, V.ref p55, V.ref p56, V.ref p57] = LN at ep58 aN lN
  have hcat : L46.length + LN.length ≤ sizeLine := Nat.le_of_lt (small1000 (by omega))
  walk_at "vs"
  intro p59 hp59
  have U := same_new (.lst (L46 ++ LN)) hp59
  replace nS := FK.fresh hp59
  replace aS := (aS.append aN).same U
  replace lS : (L46 ++ LN).length = 41 := by rw [List.length_append]; omega
  clear eS
  have eS := upd_same (H := H58) (a := p59) (o := .lst (L46 ++ LN))
  generalize upd H58 p59 (.lst (L46 ++ LN)) = H59 at U eS aS ⊢
  replace hR := hR.same U
  replace DK := DK.same U
  replace FK := FK.same U
  replace SS := SS.trans U
  replace eR := U _ _ eR
  generalize L46 ++ LN = L59 at eS aS lS
  clear hcat aN lN ep58 hp58 np58 hp59
  clear op47 op48 op49 op50 op51 op52 op53 op54 op55 op56 op57
  clear ep54 ep56
  try clear H58
  try clear H57
  clear U
  have hLL : True := trivial
  clear hLL
  walk_at "vs"
  intro p60 hp60
  have U := same_new (.tup [V.str "Ab"]) hp60
  have np60 := FK.fresh hp60
  have ep60 := upd_same (H := H59) (a := p60) (o := .tup [V.str "Ab"])
  generalize upd H59 p60 (.tup [V.str "Ab"]) = H60 at U ep60 ⊢
  replace hR := hR.same U
  replace DK := DK.same U
  replace FK := FK.same U
  replace SS := SS.trans U
  replace eR := U _ _ eR
  replace eS := U _ _ eS
  replace aS := aS.same U
  have op60 : Ok S H60 (.ref p60) := Ok.tup ep60 (Nat.le_of_ble_eq_true rfl) (All.cons (Ok.str (by decide +kernel)) All.nil)
  clear U np60 hp60 ep60
  try clear H59
  walk_at "vs"
  intro p61 hp61
  have U := same_new (.tup [V.str "choose", V.ref a, V.ref p60]) hp61
  have np61 := FK.fresh hp61
  have ep61 := upd_same (H := H60) (a := p61) (o := .tup [V.str "choose", V.ref a, V.ref p60])
  generalize upd H60 p61 (.tup [V.str "choose", V.ref a, V.ref p60]) = H61 at U ep61 ⊢
  replace hR := hR.same U
  replace DK := DK.same U
  replace FK := FK.same U
  replace SS := SS.trans U
  replace eR := U _ _ eR
  replace eS := U _ _ eS
  replace aS := aS.same U
  replace op60 := op60.same U
  have op61 : Ok S H61 (.ref p61) := Ok.tup ep61 (Nat.le_of_ble_eq_true rfl) (All.cons (Ok.str (by decide +kernel)) (All.cons (hR.ok hg) (All.cons op60 All.nil)))
  clear U np61 hp61 ep61
  try clear H60
  walk_at "vs"
  intro p62 hp62
  have U := same_new (.tup [V.str "a", V.str "abcdefghi"]) hp62
  have np62 := FK.fresh hp62
  have ep62 := upd_same (H := H61) (a := p62) (o := .tup [V.str "a", V.str "abcdefghi"])
  generalize upd H61 p62 (.tup [V.str "a", V.str "abcdefghi"]) = H62 at U ep62 ⊢
  replace hR := hR.same U
  replace DK := DK.same U
  replace FK := FK.same U
  replace SS := SS.trans U
  replace eR := U _ _ eR
  replace eS := U _ _ eS
  replace aS := aS.same U
  replace op60 := op60.same U
  replace op61 := op61.same U
  have op62 : Ok S H62 (.ref p62) := Ok.tup ep62 (Nat.le_of_ble_eq_true rfl) (All.cons (Ok.str (by decide +kernel)) (All.cons (Ok.str (by decide +kernel)) All.nil))
  clear U np62 hp62 ep62
  try clear H61
  walk_at "vs"
  intro p63 hp63
  have U := same_new (.tup [V.str "choose", V.ref a, V.ref p62]) hp63
  have np63 := FK.fresh hp63
  have ep63 := upd_same (H := H62) (a := p63) (o := .tup [V.str "choose", V.ref a, V.ref p62])
  generalize upd H62 p63 (.tup [V.str "choose", V.ref a, V.ref p62]) = H63 at U ep63 ⊢
  replace hR := hR.same U
  replace DK := DK.same U
  replace FK := FK.same U
  replace SS := SS.trans U
  replace eR := U _ _ eR
  replace eS := U _ _ eS
  replace aS := aS.same U
  replace op60 := op60.same U
  replace op61 := op61.same U
  replace op62 := op62.same U
  have op63 : Ok S H63 (.ref p63) := Ok.tup ep63 (Nat.le_of_ble_eq_true rfl) (All.cons (Ok.str (by decide +kernel)) (All.cons (hR.ok hg) (All.cons op62 All.nil)))
  clear U np63 hp63 ep63
  try clear H62
  walk_at "vs"
  intro p64 hp64
  have U := same_new (.tup [V.int 7]) hp64
  have np64 := FK.fresh hp64
  have ep64 := upd_same (H := H63) (a := p64) (o := .tup [V.int 7])
  generalize upd H63 p64 (.tup [V.int 7]) = H64 at U ep64 ⊢
  replace hR := hR.same U
  replace DK := DK.same U
  replace FK := FK.same U
  replace SS := SS.trans U
  replace eR := U _ _ eR
  replace eS := U _ _ eS
  replace aS := aS.same U
  replace op60 := op60.same U
  replace op61 := op61.same U
  replace op62 := op62.same U
  replace op63 := op63.same U
  have op64 : Ok S H64 (.ref p64) := Ok.tup ep64 (Nat.le_of_ble_eq_true rfl) (All.cons (Ok.int 7) All.nil)
  clear U np64 hp64 ep64
  try clear H63
  walk_at "vs"
  intro p65 hp65
  have U := same_new (.tup [V.str "choose", V.ref a, V.ref p64]) hp65
  have np65 := FK.fresh hp65
  have ep65 := upd_same (H := H64) (a := p65) (o := .tup [V.str "choose", V.ref a, V.ref p64])
  generalize upd H64 p65 (.tup [V.str "choose", V.ref a, V.ref p64]) = H65 at U ep65 ⊢
  replace hR := hR.same U
  replace DK := DK.same U
  replace FK := FK.same U
  replace SS := SS.trans U
  replace eR := U _ _ eR
  replace eS := U _ _ eS
  replace aS := aS.same U
  replace op60 := op60.same U
  replace op61 := op61.same U
  replace op62 := op62.same U
  replace op63 := op63.same U
  replace op64 := op64.same U
  have op65 : Ok S H65 (.ref p65) := Ok.tup ep65 (Nat.le_of_ble_eq_true rfl) (All.cons (Ok.str (by decide +kernel)) (All.cons (hR.ok hg) (All.cons op64 All.nil)))
  clear U np65 hp65 ep65
  try clear H64
  walk_at "vs"
  intro p66 hp66
  have U := same_new (.lst [V.ref p61, V.ref p63, V.ref p65]) hp66
  have np66 := FK.fresh hp66
  have ep66 := upd_same (H := H65) (a := p66) (o := .lst [V.ref p61, V.ref p63, V.ref p65])
  generalize upd H65 p66 (.lst [V.ref p61, V.ref p63, V.ref p65]) = H66 at U ep66 ⊢
  replace hR := hR.same U
  replace DK := DK.same U
  replace FK := FK.same U
  replace SS := SS.trans U
  replace eR := U _ _ eR
  replace eS := U _ _ eS
  replace aS := aS.same U
  replace op60 := op60.same U
  replace op61 := op61.same U
  replace op62 := op62.same U
  replace op63 := op63.same U
  replace op64 := op64.same U
  replace op65 := op65.same U
  have aN : All S H66 [V.ref p61, V.ref p63, V.ref p65] := (All.cons op61 (All.cons op63 (All.cons op65 All.nil)))
  have lN : [V.ref p61, V.ref p63, V.ref p65].length = 3 := rfl
  generalize [V.ref p61, V.ref p63, V.ref p65] = LN at ep66 aN lN
  have hcat : L59.length + LN.length ≤ sizeLine := Nat.le_of_lt (small1000 (by omega))
  walk_at "vs"
  intro p67 hp67
  have U := same_new (.lst (L59 ++ LN)) hp67
  replace nS := FK.fresh hp67
  replace aS := (aS.append aN).same U
  replace lS : (L59 ++ LN).length = 44 := by rw [List.length_append]; omega
  clear eS
  have eS := upd_same (H := H66) (a := p67) (o := .lst (L59 ++ LN))
  generalize upd H66 p67 (.lst (L59 ++ LN)) = H67 at U eS aS ⊢
  replace hR := hR.same U
  replace DK := DK.same U
  replace FK := FK.same U
  replace SS := SS.trans U
  replace eR := U _ _ eR
  generalize L59 ++ LN = L67 at eS aS lS
  clear hcat aN lN ep66 hp66 np66 hp67
  clear op60 op61 op62 op63 op64 op65
  try clear H66
  try clear H65
  clear U
  have hLL : True := trivial
  clear hLL
  walk_at "vs"
  intro p68 hp68
  have U := same_new (.tup [V.str "a1", V.str "b"]) hp68
  have np68 := FK.fresh hp68
  have ep68 := upd_same (H := H67) (a := p68) (o := .tup [V.str "a1", V.str "b"])
  generalize upd H67 p68 (.tup [V.str "a1", V.str "b"]) = H68 at U ep68 ⊢
  replace hR := hR.same U
  replace DK := DK.same U
  replace FK := FK.same U
  replace SS := SS.trans U
  replace eR := U _ _ eR
  replace eS := U _ _ eS
  replace aS := aS.same U
  have op68 : Ok S H68 (.ref p68) := Ok.tup ep68 (Nat.le_of_ble_eq_true rfl) (All.cons (Ok.str (by decide +kernel)) (All.cons (Ok.str (by decide +kernel)) All.nil))
  clear U np68 hp68 ep68
  try clear H67
  walk_at "vs"
  intro p69 hp69
  have U := same_new (.tup [V.str "choose", V.ref a, V.ref p68]) hp69
  have np69 := FK.fresh hp69
  have ep69 := upd_same (H := H68) (a := p69) (o := .tup [V.str "choose", V.ref a, V.ref p68])
  generalize upd H68 p69 (.tup [V.str "choose", V.ref a, V.ref p68]) = H69 at U ep69 ⊢
  replace hR := hR.same U
  replace DK := DK.same U
  replace FK := FK.same U
  replace SS := SS.trans U
  replace eR := U _ _ eR
  replace eS := U _ _ eS
  replace aS := aS.same U
  replace op68 := op68.same U
  have op69 : Ok S H69 (.ref p69) := Ok.tup ep69 (Nat.le_of_ble_eq_true rfl) (All.cons (Ok.str (by decide +kernel)) (All.cons (hR.ok hg) (All.cons op68 All.nil)))
  clear U np69 hp69 ep69
  try clear H68
  walk_at "vs"
  intro p70 hp70
  have U := same_new (.tup [V.non, V.str "a"]) hp70
  have np70 := FK.fresh hp70
  have ep70 := upd_same (H := H69) (a := p70) (o := .tup [V.non, V.str "a"])
  generalize upd H69 p70 (.tup [V.non, V.str "a"]) = H70 at U ep70 ⊢
  replace hR := hR.same U
  replace DK := DK.same U
  replace FK := FK.same U
  replace SS := SS.trans U
  replace eR := U _ _ eR
  replace eS := U _ _ eS
  replace aS := aS.same U
  replace op68 := op68.same U
  replace op69 := op69.same U
  have op70 : Ok S H70 (.ref p70) := Ok.tup ep70 (Nat.le_of_ble_eq_true rfl) (All.cons Ok.non (All.cons (Ok.str (by decide +kernel)) All.nil))
  clear U np70 hp70 ep70
  try clear H69
  walk_at "vs"
  intro p71 hp71
  have U := same_new (.tup [V.str "choose", V.ref a, V.ref p70]) hp71
  have np71 := FK.fresh hp71
  have ep71 := upd_same (H := H70) (a := p71) (o := .tup [V.str "choose", V.ref a, V.ref p70])
  generalize upd H70 p71 (.tup [V.str "choose", V.ref a, V.ref p70]) = H71 at U ep71 ⊢
  replace hR := hR.same U
  replace DK := DK.same U
  replace FK := FK.same U
  replace SS := SS.trans U
  replace eR := U _ _ eR
  replace eS := U _ _ eS
  replace aS := aS.same U
  replace op68 := op68.same U
  replace op69 := op69.same U
  replace op70 := op70.same U
  have op71 : Ok S H71 (.ref p71) := Ok.tup ep71 (Nat.le_of_ble_eq_true rfl) (All.cons (Ok.str (by decide +kernel)) (All.cons (hR.ok hg) (All.cons op70 All.nil)))
  clear U np71 hp71 ep71
  try clear H70
  walk_at "vs"
  intro p72 hp72
  have U := same_new (.tup [V.str "a"]) hp72
  have np72 := FK.fresh hp72
  have ep72 := upd_same (H := H71) (a := p72) (o := .tup [V.str "a"])
  generalize upd H71 p72 (.tup [V.str "a"]) = H72 at U ep72 ⊢
  replace hR := hR.same U
  replace DK := DK.same U
  replace FK := FK.same U
  replace SS := SS.trans U
  replace eR := U _ _ eR
  replace eS := U _ _ eS
  replace aS := aS.same U
  replace op68 := op68.same U
  replace op69 := op69.same U
  replace op70 := op70.same U
  replace op71 := op71.same U
  have op72 : Ok S H72 (.ref p72) := Ok.tup ep72 (Nat.le_of_ble_eq_true rfl) (All.cons (Ok.str (by decide +kernel)) All.nil)
  clear U np72 hp72 ep72
  try clear H71
  walk_at "vs"
  intro p73 hp73
  have U := same_new (.tup [V.ref p72]) hp73
  have np73 := FK.fresh hp73
  have ep73 := upd_same (H := H72) (a := p73) (o := .tup [V.ref p72])
  generalize upd H72 p73 (.tup [V.ref p72]) = H73 at U ep73 ⊢
  replace hR := hR.same U
  replace DK := DK.same U
  replace FK := FK.same U
  replace SS := SS.trans U
  replace eR := U _ _ eR
  replace eS := U _ _ eS
  replace aS := aS.same U
  replace op68 := op68.same U
  replace op69 := op69.same U
  replace op70 := op70.same U
  replace op71 := op71.same U
  replace op72 := op72.same U
  have op73 : Ok S H73 (.ref p73) := Ok.tup ep73 (Nat.le_of_ble_eq_true rfl) (All.cons op72 All.nil)
  clear U np73 hp73 ep73
  try clear H72
  walk_at "vs"
  intro p74 hp74
  have U := same_new (.tup [V.str "choose", V.ref a, V.ref p73]) hp74
  have np74 := FK.fresh hp74
  have ep74 := upd_same (H := H73) (a := p74) (o := .tup [V.str "choose", V.ref a, V.ref p73])
  generalize upd H73 p74 (.tup [V.str "choose", V.ref a, V.ref p73]) = H74 at U ep74 ⊢
  replace hR := hR.same U
  replace DK := DK.same U
  replace FK := FK.same U
  replace SS := SS.trans U
  replace eR := U _ _ eR
  replace eS := U _ _ eS
  replace aS := aS.same U
  replace op68 := op68.same U
  replace op69 := op69.same U
  replace op70 := op70.same U
  replace op71 := op71.same U
  replace op72 := op72.same U
  replace op73 := op73.same U
  have op74 : Ok S H74 (.ref p74) := Ok.tup ep74 (Nat.le_of_ble_eq_true rfl) (All.cons (Ok.str (by decide +kernel)) (All.cons (hR.ok hg) (All.cons op73 All.nil)))
  clear U np74 hp74 ep74
  try clear H73
  walk_at "vs"
  intro p75 hp75
  have U := same_new (.lst [V.ref p69, V.ref p71, V.ref p74]) hp75
  have np75 := FK.fresh hp75
  have ep75 := upd_same (H := H74) (a := p75) (o := .lst [V.ref p69, V.ref p71, V.ref p74])
  generalize upd H74 p75 (.lst [V.ref p69, V.ref p71, V.ref p74]) = H75 at U ep75 ⊢
  replace hR := hR.same U
  replace DK := DK.same U
  replace FK := FK.same U
  replace SS := SS.trans U
  replace eR := U _ _ eR
  replace eS := U _ _ eS
  replace aS := aS.same U
  replace op68 := op68.same U
  replace op69 := op69.same U
  replace op70 := op70.same U
  replace op71 := op71.same U
  replace op72 := op72.same U
  replace op73 := op73.same U
  replace op74 := op74.same U
  have aN : All S H75 [V.ref p69, V.ref p71, V.ref p74] := (All.cons op69 (All.cons op71 (All.cons op74 All.nil)))
  have lN : [V.ref p69, V.ref p71, V.ref p74].length = 3 := rfl
  generalize [V.ref p69, V.ref p71, V.ref p74] = LN at ep75 aN lN
  have hcat : L67.length + LN.length ≤ sizeLine := Nat.le_of_lt (small1000 (by omega))
  walk_at "vs"
  intro p76 hp76
  have U := same_new (.lst (L67 ++ LN)) hp76
  replace nS := FK.fresh hp76
  replace aS := (aS.append aN).same U
  replace lS : (L67 ++ LN).length = 47 := by rw [List.length_append]; omega
  clear eS
  have eS := upd_same (H := H75) (a := p76) (o := .lst (L67 ++ LN))
  generalize upd H75 p76 (.lst (L67 ++ LN)) = H76 at U eS aS ⊢
  replace hR := hR.same U
  replace DK := DK.same U
  replace FK := FK.same U
  replace SS := SS.trans U
  replace eR := U _ _ eR
  generalize L67 ++ LN = L76 at eS aS lS
  clear hcat aN lN ep75 hp75 np75 hp76
  clear op68 op69 op70 op71 op72 op73 op74
  try clear H75
  try clear H74
  clear U
  have hLL : True := trivial
  clear hLL
  have hm : (0 : Int) < ((L76.length : Nat) : Int) := by omega
  have hlog : (((L76.length : Nat) : Int)).natAbs.log2 < 9000 := by rw [lS]; decide +kernel
  walk_at "vs"
  intro n HZ h0 h1 b2 D2
  obtain ⟨v, hv, hmem⟩ := atI_in (L := L76) h0 h1
  have eZ := b2 _ _ (fun z => nS (hdS _ z)) eS
  walk_at "vs"
  exact q v HZ ((But.of_same SS).trans b2) D2 ((aS v hmem).but (b2.mono hdS) (DK.tups b2))
end

section
variable {P : Program} {w : World} {K : PySem.W.Frag} {mg : Str → Option Value} {base : Heap}
theorem good_kids {r : R} (g : r.Good) : ∃ ks, r.kids = some ks ∧ ks.length ≤ 3 := by
  cases r with
  | num n => exact ⟨_, rfl, by decide⟩
  | rd x => exact ⟨[], by show (if GName x then some [] else none) = _; rw [if_pos (show GName x from g)], by decide⟩
  | bin op a b => exact ⟨_, rfl, Nat.le_of_ble_eq_true rfl⟩
  | pick a b c => exact ⟨_, rfl, Nat.le_of_ble_eq_true rfl⟩
  | cho a ns => exact ⟨_, rfl, Nat.le_of_ble_eq_true rfl⟩
theorem idxs_at {n i : Nat} (h : n ≤ 3) (hi : i < n) : (idxs n)[i]? = some (.int ((i : Int) + 1)) := by
  match n, h, i, hi with
  | 1, _, 0, _ => rfl
  | 2, _, 0, _ => rfl
  | 2, _, 1, _ => rfl
  | 3, _, 0, _ => rfl
  | 3, _, 1, _ => rfl
  | 3, _, 2, _ => rfl
theorem idxs_length {n : Nat} (h : n ≤ 3) : (idxs n).length = n := by
  match n, h with
  | 0, _ => rfl
  | 1, _ => rfl
  | 2, _ => rfl
  | 3, _ => rfl
theorem kid_at {H : Hp} {a : Addr} {r : R} {ks : List R} {i : Nat} (h : IsR H a r) (g : r.Good) (e : r.kids = some ks) (hi : i < ks.length) :
    ∃ ws b k, H a = some (.tup ws) ∧ i + 1 < ws.length ∧ ws.length ≤ 4 ∧ ws[i + 1]? = some (.ref b) ∧ IsR H b k ∧ k.Good ∧ k.depth + 1 ≤ r.depth := by
  cases h with
  | num _ => cases e; simp at hi
  | rd _ => simp only [R.kids] at e; split at e <;> cases e; simp at hi
  | @bin _ b c op r s e1 h1 h2 =>
    cases e
    match i, hi with
    | 0, _ => exact ⟨_, b, r, e1, Nat.le_of_ble_eq_true rfl, Nat.le_of_ble_eq_true rfl, rfl, h1, g.1, by show _ ≤ max _ _ + 1; omega⟩
    | 1, _ => exact ⟨_, c, s, e1, Nat.le_of_ble_eq_true rfl, Nat.le_of_ble_eq_true rfl, rfl, h2, g.2, by show _ ≤ max _ _ + 1; omega⟩
  | @pick _ b c d r s t e1 h1 h2 h3 =>
    cases e
    match i, hi with
    | 0, _ => exact ⟨_, b, r, e1, Nat.le_of_ble_eq_true rfl, Nat.le_of_ble_eq_true rfl, rfl, h1, g.1, by show _ ≤ max _ (max _ _) + 1; omega⟩
    | 1, _ => exact ⟨_, c, s, e1, Nat.le_of_ble_eq_true rfl, Nat.le_of_ble_eq_true rfl, rfl, h2, g.2.1, by show _ ≤ max _ (max _ _) + 1; omega⟩
    | 2, _ => exact ⟨_, d, t, e1, Nat.le_of_ble_eq_true rfl, Nat.le_of_ble_eq_true rfl, rfl, h3, g.2.2, by show _ ≤ max _ (max _ _) + 1; omega⟩
  | @cho _ b c r ns e1 h1 h2 =>
    cases e
    match i, hi with
    | 0, _ => exact ⟨_, b, r, e1, Nat.le_of_ble_eq_true rfl, Nat.le_of_ble_eq_true rfl, rfl, h1, g.1, Nat.le_refl _⟩
theorem cut_ne {ws : List V} {i : Nat} (h : i + 1 < ws.length) : cutV ws none (some ((i : Int) + 1)) ≠ [] := by
  intro z
  have z' := congrArg List.length z
  unfold cutV at z'
  rw [List.length_take, List.length_drop, show (i : Int) + 1 = ((i + 1 : Nat) : Int) from rfl, HT.sIx_nat, HT.sIx_none] at z'
  simp only [List.length_nil] at z'
  omega
noncomputable abbrev s_law_spoilt : Stmt := top 25
theorem sc_law_spoilt : FnScope ["r", "deck", "spots", "at", "spot"] ["r", "deck"] (defScope s_law_spoilt) := ⟨rfl, rfl, rfl, by decide +kernel, rfl, by decide +kernel, by decide +kernel⟩
theorem lo_law_spoilt_spots : Loc (defScope s_law_spoilt) "spots" := by decide +kernel
theorem gl_law_spoilt__law_spots : (defScope s_law_spoilt).names.lookup ("_law_spots" : Str) = some NameKind.globalImplicit := by decide +kernel
theorem vo_law_spoilt_r : VarOk (defScope s_law_spoilt) "r" := by decide +kernel
theorem db_law_spoilt__law_spots : (("_law_spots" : Str) == ("__debug__" : Str)) = false := by decide +kernel
theorem lo_law_spoilt_at : Loc (defScope s_law_spoilt) "at" := by decide +kernel
theorem gl_law_spoilt__law_draw : (defScope s_law_spoilt).names.lookup ("_law_draw" : Str) = some NameKind.globalImplicit := by decide +kernel
theorem gl_law_spoilt_len : (defScope s_law_spoilt).names.lookup ("len" : Str) = some NameKind.globalImplicit := by decide +kernel
theorem vo_law_spoilt_spots : VarOk (defScope s_law_spoilt) "spots" := by decide +kernel
theorem nn_law_spoilt_len : ("len" : Str) ≠ "__name__" := by decide +kernel
theorem db_law_spoilt_len : (("len" : Str) == ("__debug__" : Str)) = false := by decide +kernel
theorem vo_law_spoilt_deck : VarOk (defScope s_law_spoilt) "deck" := by decide +kernel
theorem db_law_spoilt__law_draw : (("_law_draw" : Str) == ("__debug__" : Str)) = false := by decide +kernel
theorem vo_law_spoilt_at : VarOk (defScope s_law_spoilt) "at" := by decide +kernel
theorem gl_law_spoilt__law_wrong : (defScope s_law_spoilt).names.lookup ("_law_wrong" : Str) = some NameKind.globalImplicit := by decide +kernel
theorem db_law_spoilt__law_wrong : (("_law_wrong" : Str) == ("__debug__" : Str)) = false := by decide +kernel
theorem lo_law_spoilt_spot : Loc (defScope s_law_spoilt) "spot" := by decide +kernel
theorem vo_law_spoilt_spot : VarOk (defScope s_law_spoilt) "spot" := by decide +kernel
theorem gl_law_spoilt__law_spoilt : (defScope s_law_spoilt).names.lookup ("_law_spoilt" : Str) = some NameKind.globalImplicit := by decide +kernel
theorem db_law_spoilt__law_spoilt : (("_law_spoilt" : Str) == ("__debug__" : Str)) = false := by decide +kernel
theorem step_law_spoilt {m : Nat} {f g1 g2 g3 : Addr} {fd gd1 gd2 gd3 : FuncData} (T_law_spoilt : FnT K mg "_law_spoilt" s_law_spoilt ["r", "deck"] f fd)
    (G_law_spoilt : FnOk P w K mg base CX0 (m + 3) f fd ["r", "deck"] (spSpoiltS m))
    (T_law_spots : FnT K mg "_law_spots" s_law_spots ["thing"] g1 gd1) (G_law_spots : FnOk P w K mg base CX0 2 g1 gd1 ["thing"] (spSpotsT K))
    (T_law_draw : FnT K mg "_law_draw" s_law_draw ["deck", "many"] g2 gd2) (G_law_draw : FnOk P w K mg base CX0 1 g2 gd2 ["deck", "many"] spDraw)
    (T_law_wrong : FnT K mg "_law_wrong" s_law_wrong ["r", "deck"] g3 gd3) (G_law_wrong : FnOk P w K mg base CX0 2 g3 gd3 ["r", "deck"] spWrongS)
    (T : Blt mg) : FnOk P w K mg base CX0 (m + 4) f fd ["r", "deck"] (spSpoiltS (m + 1)) := by
  refine T_law_spoilt.F.okQ sc_law_spoilt (fun vs H Q E h => ?_) (fun cdv A outer s H vs Q E hr h => ?_)
  · obtain ⟨a, r, d, c, S, rfl, _⟩ := h
    rfl
  obtain ⟨a, r, d, c, S, rfl, hR, hg, hdp, DK, FK, hdS, q⟩ := h
  refine ⟨_, (qss_cons (qs_set (i := 2) sc_law_spoilt.nd rfl lo_law_spoilt_spots (qe_call (G_law_spots.mono (by omega)) hr gl_law_spoilt__law_spots T_law_spots.m T_law_spots.F.kp T_law_spots.b .nil pass0 (qa_N (qe_var 0 vo_law_spoilt_r) qa_nil) db_law_spoilt__law_spots))
    (qss_cons (qs_set (i := 3) sc_law_spoilt.nd rfl lo_law_spoilt_at (qe_call (G_law_draw.mono (by omega)) hr gl_law_spoilt__law_draw T_law_draw.m T_law_draw.F.kp T_law_draw.b .nil pass0 (qa_N (qe_var 1 vo_law_spoilt_deck) (qa_B (qe_op qop_add (qe_callB qc_len_seq gl_law_spoilt_len T.b_len bt_len (qa_N (qe_var 2 vo_law_spoilt_spots) qa_nil) nn_law_spoilt_len db_law_spoilt_len) qe_int) qa_nil)) db_law_spoilt__law_draw))
    (qss_cons (qs_if (qt_cmp qop_eq (qe_var 3 vo_law_spoilt_at) (qe_callB qc_len_seq gl_law_spoilt_len T.b_len bt_len (qa_N (qe_var 2 vo_law_spoilt_spots) qa_nil) nn_law_spoilt_len db_law_spoilt_len) (nomarkQ _)) (qss_one (qs_ret (qe_call (G_law_wrong.mono (by omega)) hr gl_law_spoilt__law_wrong T_law_wrong.m T_law_wrong.F.kp T_law_wrong.b .nil pass0 (qa_N (qe_var 0 vo_law_spoilt_r) (qa_N (qe_var 1 vo_law_spoilt_deck) qa_nil)) db_law_spoilt__law_wrong))) qss_nil)
    (qss_cons (qs_set (i := 4) sc_law_spoilt.nd rfl lo_law_spoilt_spot (qe_ix qix_list (qe_var 2 vo_law_spoilt_spots) (qe_var 3 vo_law_spoilt_at)))
    (qss_one (qs_ret (qe_op qop_catT2 (qe_op qop_catT2 (qe_slice qsl_tup (qe_var 0 vo_law_spoilt_r) qo_none (qo_some (qe_var 4 vo_law_spoilt_spot))) (qe_tup (qa_F (qe_call (G_law_spoilt.mono (by omega)) hr gl_law_spoilt__law_spoilt T_law_spoilt.m T_law_spoilt.F.kp T_law_spoilt.b .nil pass0 (qa_S (qe_ix qix_tup (qe_var 0 vo_law_spoilt_r) (qe_var 4 vo_law_spoilt_spot)) (qa_N (qe_var 1 vo_law_spoilt_deck) qa_nil)) db_law_spoilt__law_spoilt) qa_nil))) (qe_slice qsl_tup (qe_var 0 vo_law_spoilt_r) (qo_some (qe_op qop_add (qe_var 4 vo_law_spoilt_spot) qe_int)) qo_none)))))))), ?_⟩
  have ht := hR.isTh (K := K)
  have hasc := r.asc hg
  walk_at "vs"
  intro x H1 S1 hsp
  obtain ⟨ks, hks, hk3⟩ := good_kids hg
  rw [r.shape (good_fine hg), hks] at hsp
  have hsp : ∃ p, x = .ref p ∧ H p = none ∧ H1 p = some (.lst (idxs (ks.map R.toTh).length)) := hsp
  rw [List.length_map] at hsp
  obtain ⟨p, rfl, hfr, hp⟩ := hsp
  have hnp := DK.fresh hfr
  have hil := idxs_length hk3
  have D1 := DK.same S1
  have F1 := FK.same S1
  have hm : (0 : Int) < ((idxs ks.length).length : Int) + 1 := by omega
  have hlog : (((idxs ks.length).length : Int) + 1).natAbs.log2 < 9000 := by
    rw [hil]
    have : ks.length = 0 ∨ ks.length = 1 ∨ ks.length = 2 ∨ ks.length = 3 := by omega
    rcases this with z | z | z | z <;> rw [z] <;> decide +kernel
  walk_at "vs"
  intro n H2 h0 h1 b2 D2
  have hp2 := b2 _ _ hnp hp
  have R2 := (hR.same S1).tups (D1.tups b2)
  have B2 : But [d, c] H H2 := (But.of_same S1).trans b2
  have F2 := F1.but b2 D2
  clear FK F1
  walk_at "vs"
  refine ite2 (fun c1 => ?_) (fun c1 => ?_)
  · walk_at "vs"
    intro v H3 b3 D3 ok3
    exact q v H3 (B2.trans b3) D3 ok3
  · have c1' : ¬ n = ((idxs ks.length).length : Int) := fun z => c1 (decide_eq_true (congrArg V.int z))
    obtain ⟨i, rfl⟩ := Int.eq_ofNat_of_zero_le h0
    have hi : i < ks.length := by rw [hil] at h1 c1'; omega
    have hat : atI (idxs ks.length) (i : Int) = some (.int ((i : Int) + 1)) := atI_nat (idxs_at hk3 hi)
    obtain ⟨ws, b, k, ew, hw1, hw4, hwb, hb, hbg, hbd⟩ := kid_at R2 hg hks hi
    have hat2 : atI ws ((i : Int) + 1) = some (.ref b) := atI_nat (j := i + 1) hwb
    have hs1 : ¬ (HT.sIx ws.length 0 none = 0 ∧ HT.sIx ws.length ws.length (some ((i : Int) + 1)) = ws.length) := fun z => by
      have := z.2; rw [show (i : Int) + 1 = ((i + 1 : Nat) : Int) from rfl, HT.sIx_nat] at this; omega
    have hs2 : ¬ (HT.sIx ws.length 0 (some ((i : Int) + 1 + 1)) = 0 ∧ HT.sIx ws.length ws.length none = ws.length) := fun z => by
      have := z.1; rw [show (i : Int) + 1 + 1 = ((i + 2 : Nat) : Int) from rfl, HT.sIx_nat] at this; omega
    have hne := cut_ne hw1
    have hl1 := cutV_length ws none (some ((i : Int) + 1))
    have hl2 := cutV_length ws (some ((i : Int) + 1 + 1)) none
    have okw : ∀ {H' : Hp}, But [d, c] H2 H' → Tups H2 H' → ∀ v ∈ ws, Ok S H' v := fun b t v hv => (wOk R2 hg ew v hv).but (b.mono hdS) t
    walk_at "vs"
    intro p1 hp1
    have U1 := same_new (.tup (cutV ws none (some ((i : Int) + 1)))) hp1
    have D3 := D2.same U1
    have F3 := F2.same U1
    clear F2
    have hb3 := hb.same U1
    have hkm : k.depth ≤ m := by omega
    have ew3 := U1 _ _ ew
    have e1 := upd_same (H := H2) (a := p1) (o := .tup (cutV ws none (some ((i : Int) + 1))))
    generalize upd H2 p1 (.tup (cutV ws none (some ((i : Int) + 1)))) = H3 at U1 D3 F3 hb3 ew3 e1 ⊢
    walk_at "vs"
    intro v H4 b4 D4 ok4
    have t4 := D3.tups b4
    have ew4 := t4 _ _ ew3
    have e14 := t4 _ _ e1
    walk_at "vs"
    intro p5 hp5
    have U5 := same_new (.tup [v]) hp5
    have ew5 := U5 _ _ ew4
    have e15 := U5 _ _ e14
    have e5 := upd_same (H := H4) (a := p5) (o := .tup [v])
    have hz1 : (cutV ws none (some ((i : Int) + 1))).length + [v].length ≤ sizeLine := Nat.le_of_lt (small1000 (by simp only [List.length_cons, List.length_nil]; omega))
    generalize upd H4 p5 (.tup [v]) = H5 at U5 ew5 e15 e5 ⊢
    walk_at "vs"
    intro p6 H6 S6 e6
    have ew6 := S6 _ _ ew5
    walk_at "vs"
    intro p7 hp7
    have U7 := same_new (.tup (cutV ws (some ((i : Int) + 1 + 1)) none)) hp7
    have e67 := U7 _ _ e6
    have e7 := upd_same (H := H6) (a := p7) (o := .tup (cutV ws (some ((i : Int) + 1 + 1)) none))
    generalize upd H6 p7 (.tup (cutV ws (some ((i : Int) + 1 + 1)) none)) = H7 at U7 e67 e7 ⊢
    have hne2 : cutV ws none (some ((i : Int) + 1)) ++ [v] ≠ [] := by simp
    have hz2 : (cutV ws none (some ((i : Int) + 1)) ++ [v]).length + (cutV ws (some ((i : Int) + 1 + 1)) none).length ≤ sizeLine := Nat.le_of_lt (small1000 (by rw [List.length_append]; simp only [List.length_cons, List.length_nil]; omega))
    walk_at "vs"
    intro p8 H8 S8 e8
    have SZ : Same H4 H8 := U5.trans (S6.trans (U7.trans S8))
    have BZ : But [d, c] H2 H8 := (But.of_same U1).trans (b4.trans (But.of_same SZ))
    have TZ : Tups H2 H8 := (Same.tups U1).trans (t4.trans (Same.tups SZ))
    refine q (.ref p8) H8 (B2.trans BZ) (D4.same SZ) (Ok.tup e8 ?_ ?_)
    · rw [List.length_append, List.length_append]; simp only [List.length_cons, List.length_nil]; omega
    · intro y hy
      rcases List.mem_append.mp hy with z | z
      · rcases List.mem_append.mp z with z | z
        · exact okw BZ TZ y (cut_mem z)
        · have : y = v := by simpa using z
          subst this
          exact ok4.same SZ
      · exact okw BZ TZ y (cut_mem z)
theorem ok_law_spoilt {f g1 g2 g3 : Addr} {fd gd1 gd2 gd3 : FuncData} (T_law_spoilt : FnT K mg "_law_spoilt" s_law_spoilt ["r", "deck"] f fd)
    (T_law_spots : FnT K mg "_law_spots" s_law_spots ["thing"] g1 gd1) (G_law_spots : FnOk P w K mg base CX0 2 g1 gd1 ["thing"] (spSpotsT K))
    (T_law_draw : FnT K mg "_law_draw" s_law_draw ["deck", "many"] g2 gd2) (G_law_draw : FnOk P w K mg base CX0 1 g2 gd2 ["deck", "many"] spDraw)
    (T_law_wrong : FnT K mg "_law_wrong" s_law_wrong ["r", "deck"] g3 gd3) (G_law_wrong : FnOk P w K mg base CX0 2 g3 gd3 ["r", "deck"] spWrongS)
    (T : Blt mg) : ∀ m : Nat, FnOk P w K mg base CX0 (m + 3) f fd ["r", "deck"] (spSpoiltS m)
  | 0 => never fun vs H Q E h => by
    obtain ⟨a, r, d, c, S, _, _, _, hd, _⟩ := h
    have := r.depth_pos
    omega
  | m + 1 => step_law_spoilt T_law_spoilt (ok_law_spoilt T_law_spoilt T_law_spots G_law_spots T_law_draw G_law_draw T_law_wrong G_law_wrong T m) T_law_spots G_law_spots T_law_draw G_law_draw T_law_wrong G_law_wrong T
end

section
variable {P : Program} {w : World} {K : PySem.W.Frag} {mg : Str → Option Value} {base : Heap}
noncomputable abbrev s_is_house : Stmt := top 13
theorem sc_is_house : FnScope ["thing", "given", "recipes", "name", "number", "r"] ["thing"] (defScope s_is_house) := ⟨rfl, rfl, rfl, by decide +kernel, rfl, by decide +kernel, by decide +kernel⟩
theorem gl_is_house_len : (defScope s_is_house).names.lookup ("len" : Str) = some NameKind.globalImplicit := by decide +kernel
theorem vo_is_house_thing : VarOk (defScope s_is_house) "thing" := by decide +kernel
theorem nn_is_house_len : ("len" : Str) ≠ "__name__" := by decide +kernel
theorem db_is_house_len : (("len" : Str) == ("__debug__" : Str)) = false := by decide +kernel
theorem gl_is_house_isinstance : (defScope s_is_house).names.lookup ("isinstance" : Str) = some NameKind.globalImplicit := by decide +kernel
theorem gl_is_house_tuple : (defScope s_is_house).names.lookup ("tuple" : Str) = some NameKind.globalImplicit := by decide +kernel
theorem nn_is_house_tuple : ("tuple" : Str) ≠ "__name__" := by decide +kernel
theorem db_is_house_tuple : (("tuple" : Str) == ("__debug__" : Str)) = false := by decide +kernel
theorem nn_is_house_isinstance : ("isinstance" : Str) ≠ "__name__" := by decide +kernel
theorem db_is_house_isinstance : (("isinstance" : Str) == ("__debug__" : Str)) = false := by decide +kernel
theorem lo_is_house_given : Loc (defScope s_is_house) "given" := by decide +kernel
theorem lo_is_house_recipes : Loc (defScope s_is_house) "recipes" := by decide +kernel
theorem gl_is_house_dict : (defScope s_is_house).names.lookup ("dict" : Str) = some NameKind.globalImplicit := by decide +kernel
theorem nn_is_house_dict : ("dict" : Str) ≠ "__name__" := by decide +kernel
theorem db_is_house_dict : (("dict" : Str) == ("__debug__" : Str)) = false := by decide +kernel
theorem vo_is_house_recipes : VarOk (defScope s_is_house) "recipes" := by decide +kernel
theorem vo_is_house_given : VarOk (defScope s_is_house) "given" := by decide +kernel
theorem lo_is_house_number : Loc (defScope s_is_house) "number" := by decide +kernel
theorem lo_is_house_name : Loc (defScope s_is_house) "name" := by decide +kernel
theorem gl_is_house_is_whole_number : (defScope s_is_house).names.lookup ("is_whole_number" : Str) = some NameKind.globalImplicit := by decide +kernel
theorem vo_is_house_number : VarOk (defScope s_is_house) "number" := by decide +kernel
theorem db_is_house_is_whole_number : (("is_whole_number" : Str) == ("__debug__" : Str)) = false := by decide +kernel
theorem gl_is_house_is_name : (defScope s_is_house).names.lookup ("is_name" : Str) = some NameKind.globalImplicit := by decide +kernel
theorem vo_is_house_name : VarOk (defScope s_is_house) "name" := by decide +kernel
theorem db_is_house_is_name : (("is_name" : Str) == ("__debug__" : Str)) = false := by decide +kernel
theorem lo_is_house_r : Loc (defScope s_is_house) "r" := by decide +kernel
theorem gl_is_house_is_recipe : (defScope s_is_house).names.lookup ("is_recipe" : Str) = some NameKind.globalImplicit := by decide +kernel
theorem vo_is_house_r : VarOk (defScope s_is_house) "r" := by decide +kernel
theorem db_is_house_is_recipe : (("is_recipe" : Str) == ("__debug__" : Str)) = false := by decide +kernel
theorem ok_is_house {f g1 g2 g3 : Addr} {fd gd1 gd2 gd3 : FuncData} (T_is_house : FnT K mg "is_house" s_is_house ["thing"] f fd)
    (T_is_whole_number : FnT K mg "is_whole_number" s_is_whole_number ["thing"] g1 gd1) (G_is_whole_number : FnOk P w K mg base CX0 1 g1 gd1 ["thing"] (spWhole K))
    (T_is_name : FnT K mg "is_name" s_is_name ["thing"] g2 gd2) (G_is_name : FnOk P w K mg base CX0 1 g2 gd2 ["thing"] (spIsName K))
    (T_is_recipe : FnT K mg "is_recipe" s_is_recipe ["thing"] g3 gd3) (G_is_recipe : FnOk P w K mg base CX0 4 g3 gd3 ["thing"] (spIsRec K))
    (T : Blt mg) (kd : Kinds K) : FnOk P w K mg base CX0 5 f fd ["thing"] (spHouseX P w K) := by
  refine T_is_house.F.okQ sc_is_house (fun vs H Q E h => ?_) (fun cdv A outer s H vs Q E hr h => ?_)
  · obtain ⟨v, rfl, _⟩ := h
    rfl
  obtain ⟨v, rfl, hT⟩ := h
  refine ⟨_, (qss_cons (qs_if (qt_w (qw_or (qt_not (qt_val (qe_callB qc_isi gl_is_house_isinstance T.b_isinstance bt_isinstance (qa_N (qe_var 0 vo_is_house_thing) (qa_N (qe_bltn (v := .ty "tuple") gl_is_house_tuple T.b_tuple bt_tuple rfl nn_is_house_tuple db_is_house_tuple) qa_nil)) nn_is_house_isinstance db_is_house_isinstance))) (qw_or1 (qt_cmp qop_ne (qe_callB qc_len_seq gl_is_house_len T.b_len bt_len (qa_N (qe_var 0 vo_is_house_thing) qa_nil) nn_is_house_len db_is_house_len) qe_int (nomarkQ _))))) (qss_one (qs_ret qe_bl)) qss_nil)
    (qss_cons (qs_set (i := 1) sc_is_house.nd rfl lo_is_house_given (qe_ix qix_tup (qe_var 0 vo_is_house_thing) qe_int))
    (qss_cons (qs_set (i := 2) sc_is_house.nd rfl lo_is_house_recipes (qe_ix qix_tup (qe_var 0 vo_is_house_thing) qe_int))
    (qss_cons (qs_if (qt_w (qw_or (qt_not (qt_val (qe_callB (qc_isiX (P := P) (w := w) (K := K) rfl rfl rfl) gl_is_house_isinstance T.b_isinstance bt_isinstance (qa_N (qe_var 1 vo_is_house_given) (qa_N (qe_bltn (v := .ty "dict") gl_is_house_dict T.b_dict bt_dict rfl nn_is_house_dict db_is_house_dict) qa_nil)) nn_is_house_isinstance db_is_house_isinstance))) (qw_or1 (qt_not (qt_val (qe_callB (qc_isiX (P := P) (w := w) (K := K) rfl rfl rfl) gl_is_house_isinstance T.b_isinstance bt_isinstance (qa_N (qe_var 2 vo_is_house_recipes) (qa_N (qe_bltn (v := .ty "dict") gl_is_house_dict T.b_dict bt_dict rfl nn_is_house_dict db_is_house_dict) qa_nil)) nn_is_house_isinstance db_is_house_isinstance)))))) (qss_one (qs_ret qe_bl)) qss_nil)
    (qss_cons (qs_for PassesOwn.never rfl (qi_itemsR (P := P) (w := w) rfl rfl (qe_var 1 vo_is_house_given)) (qg_tup rfl (qgs_cons (qg_name (i := 3) sc_is_house.nd rfl lo_is_house_name) (qgs_cons (qg_name (i := 4) sc_is_house.nd rfl lo_is_house_number) qgs_nil))) (qss_one (qs_if (qt_w (qw_or (qt_not (qt_val (qe_call (G_is_name.mono (by omega)) hr gl_is_house_is_name T_is_name.m T_is_name.F.kp T_is_name.b .nil pass0 (qa_N (qe_var 3 vo_is_house_name) qa_nil) db_is_house_is_name))) (qw_or1 (qt_not (qt_val (qe_call (G_is_whole_number.mono (by omega)) hr gl_is_house_is_whole_number T_is_whole_number.m T_is_whole_number.F.kp T_is_whole_number.b .nil pass0 (qa_N (qe_var 4 vo_is_house_number) qa_nil) db_is_house_is_whole_number)))))) (qss_one (qs_ret qe_bl)) qss_nil)))
    (qss_cons (qs_for PassesOwn.never rfl (qi_itemsR (P := P) (w := w) rfl rfl (qe_var 2 vo_is_house_recipes)) (qg_tup rfl (qgs_cons (qg_name (i := 3) sc_is_house.nd rfl lo_is_house_name) (qgs_cons (qg_name (i := 5) sc_is_house.nd rfl lo_is_house_r) qgs_nil))) (qss_one (qs_if (qt_w (qw_or (qt_not (qt_val (qe_call (G_is_name.mono (by omega)) hr gl_is_house_is_name T_is_name.m T_is_name.F.kp T_is_name.b .nil pass0 (qa_N (qe_var 3 vo_is_house_name) qa_nil) db_is_house_is_name))) (qw_or (qt_xin (P := P) (w := w) rfl rfl hr.units (qe_var 3 vo_is_house_name) (qe_var 1 vo_is_house_given)) (qw_or1 (qt_not (qt_val (qe_call (G_is_recipe.mono (by omega)) hr gl_is_house_is_recipe T_is_recipe.m T_is_recipe.F.kp T_is_recipe.b .nil pass0 (qa_N (qe_var 5 vo_is_house_r) qa_nil) db_is_house_is_recipe))))))) (qss_one (qs_ret qe_bl)) qss_nil)))
    (qss_one (qs_ret qe_bl)))))))), ?_⟩
  rcases hT with ⟨t, ht, hasc, hnp, qf⟩ | ⟨h, g, c, kg, lg, kr, lr, tg, tr, rfl, B, q⟩
  · have ty := ht.ty
    have ki := ht.isi kd (c := "tuple") (by simp [tys])
    walk_at "vs"
    cases ht with
    | @tup a vs ts e hs =>
      refine itB_f (by simp [subT, tyTh]) ?_
      clear ki ty
      walk_at "vs"
      refine ite2 (fun c1 => ?_) (fun c1 => ?_)
      · walk_at "vs"
        exact qf _ (Same.refl _)
      · have hl : vs.length = 2 := by
          have := Bool.eq_false_iff.mpr c1
          simp at this
          omega
        obtain ⟨x, y, rfl⟩ : ∃ x y, vs = [x, y] := by
          rcases vs with _ | ⟨x, _ | ⟨y, _ | ⟨z, r⟩⟩⟩ <;> simp at hl
          exact ⟨x, y, rfl⟩
        cases hs with
        | @cons _ tx _ _ hx hs =>
          cases hs with
          | @cons _ ty' _ _ hy hs =>
            cases hs
            have e0 : atI [x, y] 0 = some x := rfl
            have e1 : atI [x, y] 1 = some y := rfl
            walk_at "vs"
            refine .inl ⟨x, "dict", _, _, rfl, hx.ty, hx.isi kd (c := "dict") (by simp [tys]), ?_⟩
            walk_at "vs"
            rcases hnp _ _ rfl with hd | hd
            · have : subT (tyTh tx) "dict" = false := by simp [subT, hd]
              rw [this]
              walk_at "vs"
              exact qf _ (Same.refl _)
            · cases hb : subT (tyTh tx) "dict" with
              | false =>
                walk_at "vs"
                exact qf _ (Same.refl _)
              | true =>
                walk_at "vs"
                refine .inl ⟨y, "dict", _, _, rfl, hy.ty, hy.isi kd (c := "dict") (by simp [tys]), ?_⟩
                have : subT (tyTh ty') "dict" = false := by simp [subT, hd]
                rw [this]
                walk_at "vs"
                exact qf _ (Same.refl _)
    | non =>
      refine itB_t (by simp [subT, tyTh]) ?_
      walk_at "vs"
      exact qf _ (Same.refl _)
    | bl b =>
      refine itB_t (by simp [subT, tyTh]) ?_
      walk_at "vs"
      exact qf _ (Same.refl _)
    | int i =>
      refine itB_t (by simp [subT, tyTh]) ?_
      walk_at "vs"
      exact qf _ (Same.refl _)
    | str x =>
      refine itB_t (by simp [subT, tyTh]) ?_
      walk_at "vs"
      exact qf _ (Same.refl _)
    | oth h1 h2 h3 =>
      refine itB_t (by rcases h2 with rfl | rfl <;> simp [subT, tyTh]) ?_
      walk_at "vs"
      exact qf _ (Same.refl _)
  · have eh := B.eh
    have tyh : TyOf K H (.ref h) (.type "tuple") := .tup eh
    walk_at "vs"
    refine .inr ⟨g, kg, lg, rfl, B.dg, ?_⟩
    walk_at "vs"
    refine .inr ⟨c, kr, lr, rfl, B.dc, ?_⟩
    walk_at "vs"
    refine ⟨B.dg, fun o1 f1 => ?_⟩
    have b1 : But [g, c] H (upd H g (fixO g o1)) := But.set _ (by simp)
    have B1 := B.fixG f1
    have e1 : upd H g (fixO g o1) g = some (fixO g o1) := upd_same
    generalize upd H g (fixO g o1) = H1 at b1 B1 e1 ⊢
    have fin : ∀ H2, But [g, c] H1 H2 → HB P w H2 h g c kg lg kr lr tg tr → Q (.bl (houseT tg tr)) H2 := fun H2 b2 B2 => q H2 (b1.trans b2) B2
    clear q b1 B eh tyh
    refine for_itemsR (fun i σ Hc => Wr (∃ (t3 t4 t5 : Option V), σ = [some (.ref h), some (.ref g), some (.ref c), t3, t4, t5] ∧ Same H1 Hc ∧ (tg.take i).all (fun p => nameT p.1 && wholeT p.2) = true)) ?_ ?_ ?_ ?_
    · exact .mk ⟨_, _, _, rfl, Same.refl _, rfl⟩
    · intro i σ Hc _ hP
      obtain ⟨_, _, _, _, s1, _⟩ := hP.h
      exact s1 _ _ e1
    · intro i k v T' σ Hc hkv hT hP
      obtain ⟨t3, t4, t5, rfl, s1, hall⟩ := hP.h
      clear hP
      obtain ⟨⟨tk, tv⟩, htk, ⟨k1, k2⟩, v1, v2⟩ := paired_at B1.eg hkv
      show gTup _ _ _ (.ref T') _ (upd Hc T' (.tup [k, v])) _
      have s2 := same_new (.tup [k, v]) hT
      have eT : upd Hc T' (.tup [k, v]) T' = some (.tup [k, v]) := upd_same
      have s12 := s1.trans s2
      generalize upd Hc T' (.tup [k, v]) = H2 at *
      have hx : IsTh K H2 k tk := (k1.same s12).isTh
      have hx2 : ShortT tk := k2.short
      walk_at "vs"
      intro H3 s3
      have s13 := s12.trans s3
      cases hn : nameT tk with
      | false =>
        walk_at "vs"
        have hf : houseT tg tr = false := by unfold houseT; rw [all_false htk (by simp [hn])]; rfl
        rw [hf] at fin
        exact fin _ (But.of_same s13) (B1.same s13)
      | true =>
        have hv : IsTh K H3 v tv := (v1.same s13).isTh
        clear hx hx2
        walk_at "vs"
        cases hw : wholeT tv with
        | false =>
          walk_at "vs"
          have hf : houseT tg tr = false := by unfold houseT; rw [all_false htk (by simp [hw])]; rfl
          rw [hf] at fin
          exact fin _ (But.of_same s13) (B1.same s13)
        | true =>
          walk_at "vs"
          exact .mk ⟨_, _, _, rfl, s13, all_take htk hall (by simp [hn, hw])⟩
    · intro σ Hc hP
      obtain ⟨t3, t4, t5, rfl, s1, hall⟩ := hP.h
      clear hP
      have hall : tg.all (fun p => nameT p.1 && wholeT p.2) = true := by
        have hl : (ents kg lg).length = tg.length := Paired.length B1.eg
        rw [hl, List.take_length] at hall; exact hall
      have B2 := B1.same s1
      walk_at "vs"
      refine ⟨B2.dc, fun o2 f2 => ?_⟩
      have b3 : But [g, c] H1 (upd Hc c (fixO c o2)) := (But.of_same s1).trans (But.set _ (by simp))
      have B3 := B2.fixC f2
      have e3 : upd Hc c (fixO c o2) c = some (fixO c o2) := upd_same
      generalize upd Hc c (fixO c o2) = H3 at b3 B3 e3 ⊢
      replace fin : ∀ H2, Same H3 H2 → Q (.bl (houseT tg tr)) H2 := fun H2 s => fin H2 (b3.trans (But.of_same s)) (B3.same s)
      have hh : houseT tg tr = tr.all fun p => nameT p.1 && !hasK p.1 tg && decide (szN 8 p.2 ≤ 100) := by unfold houseT; rw [hall]; rfl
      rw [hh] at fin
      clear b3 B2 B1 e1 s1 hh
      refine for_itemsR (fun i σ Hc => Wr (∃ (t3 t4 t5 : Option V), σ = [some (.ref h), some (.ref g), some (.ref c), t3, t4, t5] ∧ Same H3 Hc ∧ (tr.take i).all (fun p => nameT p.1 && !hasK p.1 tg && decide (szN 8 p.2 ≤ 100)) = true)) ?_ ?_ ?_ ?_
      · exact .mk ⟨_, _, _, rfl, Same.refl _, rfl⟩
      · intro i σ Hc _ hP
        obtain ⟨_, _, _, _, s1, _⟩ := hP.h
        exact s1 _ _ e3
      · intro i k v T' σ Hd hkv hT hP
        obtain ⟨t3, t4, t5, rfl, s1, hall⟩ := hP.h
        clear hP
        obtain ⟨⟨tk, tv⟩, htk, ⟨k1, k2⟩, v1, v2⟩ := paired_at B3.ec hkv
        show gTup _ _ _ (.ref T') _ (upd Hd T' (.tup [k, v])) _
        have s2 := same_new (.tup [k, v]) hT
        have eT : upd Hd T' (.tup [k, v]) T' = some (.tup [k, v]) := upd_same
        have s12 := s1.trans s2
        generalize upd Hd T' (.tup [k, v]) = H4 at *
        have hx : IsTh K H4 k tk := (k1.same s12).isTh
        have hx2 : ShortT tk := k2.short
        walk_at "vs"
        intro H5 s5
        have s15 := s12.trans s5
        cases hn : nameT tk with
        | false =>
          walk_at "vs"
          rw [all_false htk (by simp [hn])] at fin
          exact fin _ s15
        | true =>
          clear hx hx2
          have B5 := B3.same s15
          obtain ⟨x, rfl⟩ : ∃ x, tk = .str x := by cases tk <;> simp [nameT] at hn; exact ⟨_, rfl⟩
          obtain rfl : k = .str x := by cases k1; rfl
          walk_at "vs"
          refine ⟨B5.dg, B5.og, ?_⟩
          rw [← has_val B5.og x B5.xg B5.eg]
          cases hk : hasK (.str x) tg with
          | true =>
            walk_at "vs"
            rw [all_false htk (by simp [hk])] at fin
            exact fin _ s15
          | false =>
            have hv : IsTh K H5 v tv := (v1.same s15).isTh
            have hv2 : ShortT tv := v2.short
            walk_at "vs"
            intro H6 s6
            cases hz : decide (szN 8 tv ≤ 100) with
            | false =>
              walk_at "vs"
              rw [all_false htk (by simp only [hz, Bool.and_false])] at fin
              exact fin _ (s15.trans s6)
            | true =>
              walk_at "vs"
              exact .mk ⟨_, _, _, rfl, s15.trans s6, all_take htk hall (by simp only [hn, hk, hz]; rfl)⟩
      · intro σ Hd hP
        obtain ⟨t3, t4, t5, rfl, s1, hall⟩ := hP.h
        have hl : (ents kr lr).length = tr.length := Paired.length B3.ec
        rw [hl, List.take_length] at hall
        rw [hall] at fin
        exact fin _ s1
end

section
variable {P : Program} {w : World} {K : PySem.W.Frag} {mg : Str → Option Value} {base : Heap}
noncomputable abbrev s_law_whole : Stmt := top 26
theorem sc_law_whole : FnScope ["thing"] ["thing"] (defScope s_law_whole) := ⟨rfl, rfl, rfl, by decide +kernel, rfl, by decide +kernel, by decide +kernel⟩
theorem gl_law_whole_isinstance : (defScope s_law_whole).names.lookup ("isinstance" : Str) = some NameKind.globalImplicit := by decide +kernel
theorem gl_law_whole_bool : (defScope s_law_whole).names.lookup ("bool" : Str) = some NameKind.globalImplicit := by decide +kernel
theorem nn_law_whole_bool : ("bool" : Str) ≠ "__name__" := by decide +kernel
theorem db_law_whole_bool : (("bool" : Str) == ("__debug__" : Str)) = false := by decide +kernel
theorem vo_law_whole_thing : VarOk (defScope s_law_whole) "thing" := by decide +kernel
theorem nn_law_whole_isinstance : ("isinstance" : Str) ≠ "__name__" := by decide +kernel
theorem db_law_whole_isinstance : (("isinstance" : Str) == ("__debug__" : Str)) = false := by decide +kernel
theorem gl_law_whole_int : (defScope s_law_whole).names.lookup ("int" : Str) = some NameKind.globalImplicit := by decide +kernel
theorem nn_law_whole_int : ("int" : Str) ≠ "__name__" := by decide +kernel
theorem db_law_whole_int : (("int" : Str) == ("__debug__" : Str)) = false := by decide +kernel
theorem ok_law_whole {f : Addr} {fd : FuncData} (T_law_whole : FnT K mg "_law_whole" s_law_whole ["thing"] f fd) (T : Blt mg) (kd : Kinds K) : FnOk P w K mg base CX0 1 f fd ["thing"] (spWhole K) := by
  refine T_law_whole.F.okQ sc_law_whole (fun vs H Q E h => ?_) (fun cdv A outer s H vs Q E hr h => ?_)
  · obtain ⟨v, t, rfl, _⟩ := h
    rfl
  obtain ⟨v, t, rfl, ht, q⟩ := h
  refine ⟨_, (qss_one (qs_ret (qe_and (qe_callB qc_isi gl_law_whole_isinstance T.b_isinstance bt_isinstance (qa_N (qe_var 0 vo_law_whole_thing) (qa_N (qe_bltn (v := .ty "int") gl_law_whole_int T.b_int bt_int rfl nn_law_whole_int db_law_whole_int) qa_nil)) nn_law_whole_isinstance db_law_whole_isinstance) (qe_one (qe_not (qe_callB qc_isi gl_law_whole_isinstance T.b_isinstance bt_isinstance (qa_N (qe_var 0 vo_law_whole_thing) (qa_N (qe_bltn (v := .ty "bool") gl_law_whole_bool T.b_bool bt_bool rfl nn_law_whole_bool db_law_whole_bool) qa_nil)) nn_law_whole_isinstance db_law_whole_isinstance)))))), ?_⟩
  have h1 := ht.ty
  have h2 := ht.isi kd (c := "int") (by simp [tys])
  have h3 := ht.isi kd (c := "bool") (by simp [tys])
  walk_at "vs"
  cases ht with
  | bl b => walk_at "vs"; exact q
  | int i => walk_at "vs"; exact q
  | non => exact q
  | str x => exact q
  | tup e h => exact q
  | oth h hT k => rcases hT with rfl | rfl <;> exact q
noncomputable abbrev s_law_is_house : Stmt := top 28
theorem sc_law_is_house : FnScope ["thing", "given", "recipes", "name"] ["thing"] (defScope s_law_is_house) := ⟨rfl, rfl, rfl, by decide +kernel, rfl, by decide +kernel, by decide +kernel⟩
theorem gl_law_is_house_len : (defScope s_law_is_house).names.lookup ("len" : Str) = some NameKind.globalImplicit := by decide +kernel
theorem vo_law_is_house_thing : VarOk (defScope s_law_is_house) "thing" := by decide +kernel
theorem nn_law_is_house_len : ("len" : Str) ≠ "__name__" := by decide +kernel
theorem db_law_is_house_len : (("len" : Str) == ("__debug__" : Str)) = false := by decide +kernel
theorem gl_law_is_house_isinstance : (defScope s_law_is_house).names.lookup ("isinstance" : Str) = some NameKind.globalImplicit := by decide +kernel
theorem gl_law_is_house_tuple : (defScope s_law_is_house).names.lookup ("tuple" : Str) = some NameKind.globalImplicit := by decide +kernel
theorem nn_law_is_house_tuple : ("tuple" : Str) ≠ "__name__" := by decide +kernel
theorem db_law_is_house_tuple : (("tuple" : Str) == ("__debug__" : Str)) = false := by decide +kernel
theorem nn_law_is_house_isinstance : ("isinstance" : Str) ≠ "__name__" := by decide +kernel
theorem db_law_is_house_isinstance : (("isinstance" : Str) == ("__debug__" : Str)) = false := by decide +kernel
theorem lo_law_is_house_recipes : Loc (defScope s_law_is_house) "recipes" := by decide +kernel
theorem lo_law_is_house_given : Loc (defScope s_law_is_house) "given" := by decide +kernel
theorem gl_law_is_house_dict : (defScope s_law_is_house).names.lookup ("dict" : Str) = some NameKind.globalImplicit := by decide +kernel
theorem nn_law_is_house_dict : ("dict" : Str) ≠ "__name__" := by decide +kernel
theorem db_law_is_house_dict : (("dict" : Str) == ("__debug__" : Str)) = false := by decide +kernel
theorem vo_law_is_house_recipes : VarOk (defScope s_law_is_house) "recipes" := by decide +kernel
theorem vo_law_is_house_given : VarOk (defScope s_law_is_house) "given" := by decide +kernel
theorem lo_law_is_house_name : Loc (defScope s_law_is_house) "name" := by decide +kernel
theorem vo_law_is_house_name : VarOk (defScope s_law_is_house) "name" := by decide +kernel
theorem gl_law_is_house__law_whole : (defScope s_law_is_house).names.lookup ("_law_whole" : Str) = some NameKind.globalImplicit := by decide +kernel
theorem db_law_is_house__law_whole : (("_law_whole" : Str) == ("__debug__" : Str)) = false := by decide +kernel
theorem gl_law_is_house__law_is_name : (defScope s_law_is_house).names.lookup ("_law_is_name" : Str) = some NameKind.globalImplicit := by decide +kernel
theorem db_law_is_house__law_is_name : (("_law_is_name" : Str) == ("__debug__" : Str)) = false := by decide +kernel
theorem gl_law_is_house__law_is : (defScope s_law_is_house).names.lookup ("_law_is" : Str) = some NameKind.globalImplicit := by decide +kernel
theorem db_law_is_house__law_is : (("_law_is" : Str) == ("__debug__" : Str)) = false := by decide +kernel
theorem ok_law_is_house {f g1 g2 g3 : Addr} {fd gd1 gd2 gd3 : FuncData} (T_law_is_house : FnT K mg "_law_is_house" s_law_is_house ["thing"] f fd)
    (T_law_whole : FnT K mg "_law_whole" s_law_whole ["thing"] g1 gd1) (G_law_whole : FnOk P w K mg base CX0 1 g1 gd1 ["thing"] (spWhole K))
    (T_law_is_name : FnT K mg "_law_is_name" s_law_is_name ["thing"] g2 gd2) (G_law_is_name : FnOk P w K mg base CX0 1 g2 gd2 ["thing"] (spLNameT K))
    (T_law_is : FnT K mg "_law_is" s_law_is ["thing"] g3 gd3) (G_law_is : FnOk P w K mg base CX0 13 g3 gd3 ["thing"] (spLIsT K))
    (T : Blt mg) (kd : Kinds K) : FnOk P w K mg base CX0 14 f fd ["thing"] (spHouseX P w K) := by
  refine T_law_is_house.F.okQ sc_law_is_house (fun vs H Q E h => ?_) (fun cdv A outer s H vs Q E hr h => ?_)
  · obtain ⟨v, rfl, _⟩ := h
    rfl
  obtain ⟨v, rfl, hT⟩ := h
  refine ⟨_, (qss_cons (qs_if (qt_w (qw_or (qt_not (qt_val (qe_callB qc_isi gl_law_is_house_isinstance T.b_isinstance bt_isinstance (qa_N (qe_var 0 vo_law_is_house_thing) (qa_N (qe_bltn (v := .ty "tuple") gl_law_is_house_tuple T.b_tuple bt_tuple rfl nn_law_is_house_tuple db_law_is_house_tuple) qa_nil)) nn_law_is_house_isinstance db_law_is_house_isinstance))) (qw_or1 (qt_cmp qop_ne (qe_callB qc_len_seq gl_law_is_house_len T.b_len bt_len (qa_N (qe_var 0 vo_law_is_house_thing) qa_nil) nn_law_is_house_len db_law_is_house_len) qe_int (nomarkQ _))))) (qss_one (qs_ret qe_bl)) qss_nil)
    (qss_cons (qs_asg (qe_var 0 vo_law_is_house_thing) (qg_tup rfl (qgs_cons (qg_name (i := 1) sc_law_is_house.nd rfl lo_law_is_house_given) (qgs_cons (qg_name (i := 2) sc_law_is_house.nd rfl lo_law_is_house_recipes) qgs_nil))))
    (qss_cons (qs_if (qt_w (qw_or (qt_not (qt_val (qe_callB (qc_isiX (P := P) (w := w) (K := K) rfl rfl rfl) gl_law_is_house_isinstance T.b_isinstance bt_isinstance (qa_N (qe_var 1 vo_law_is_house_given) (qa_N (qe_bltn (v := .ty "dict") gl_law_is_house_dict T.b_dict bt_dict rfl nn_law_is_house_dict db_law_is_house_dict) qa_nil)) nn_law_is_house_isinstance db_law_is_house_isinstance))) (qw_or1 (qt_not (qt_val (qe_callB (qc_isiX (P := P) (w := w) (K := K) rfl rfl rfl) gl_law_is_house_isinstance T.b_isinstance bt_isinstance (qa_N (qe_var 2 vo_law_is_house_recipes) (qa_N (qe_bltn (v := .ty "dict") gl_law_is_house_dict T.b_dict bt_dict rfl nn_law_is_house_dict db_law_is_house_dict) qa_nil)) nn_law_is_house_isinstance db_law_is_house_isinstance)))))) (qss_one (qs_ret qe_bl)) qss_nil)
    (qss_cons (qs_for PassesOwn.never rfl (qi_dictR (P := P) (w := w) rfl rfl (qe_var 1 vo_law_is_house_given)) (qg_name (i := 3) sc_law_is_house.nd rfl lo_law_is_house_name) (qss_one (qs_if (qt_w (qw_or (qt_not (qt_val (qe_call (G_law_is_name.mono (by omega)) hr gl_law_is_house__law_is_name T_law_is_name.m T_law_is_name.F.kp T_law_is_name.b .nil pass0 (qa_N (qe_var 3 vo_law_is_house_name) qa_nil) db_law_is_house__law_is_name))) (qw_or (qt_not (qt_val (qe_call (G_law_whole.mono (by omega)) hr gl_law_is_house__law_whole T_law_whole.m T_law_whole.F.kp T_law_whole.b .nil pass0 (qa_S (qe_xget (P := P) (w := w) rfl rfl hr.units (qe_var 1 vo_law_is_house_given) (qe_var 3 vo_law_is_house_name)) qa_nil) db_law_is_house__law_whole))) (qw_or1 (qt_xin (P := P) (w := w) rfl rfl hr.units (qe_var 3 vo_law_is_house_name) (qe_var 2 vo_law_is_house_recipes)))))) (qss_one (qs_ret qe_bl)) qss_nil)))
    (qss_cons (qs_for PassesOwn.never rfl (qi_dictR (P := P) (w := w) rfl rfl (qe_var 2 vo_law_is_house_recipes)) (qg_name (i := 3) sc_law_is_house.nd rfl lo_law_is_house_name) (qss_one (qs_if (qt_w (qw_or (qt_not (qt_val (qe_call (G_law_is_name.mono (by omega)) hr gl_law_is_house__law_is_name T_law_is_name.m T_law_is_name.F.kp T_law_is_name.b .nil pass0 (qa_N (qe_var 3 vo_law_is_house_name) qa_nil) db_law_is_house__law_is_name))) (qw_or1 (qt_not (qt_val (qe_call (G_law_is.mono (by omega)) hr gl_law_is_house__law_is T_law_is.m T_law_is.F.kp T_law_is.b .nil pass0 (qa_S (qe_xget (P := P) (w := w) rfl rfl hr.units (qe_var 2 vo_law_is_house_recipes) (qe_var 3 vo_law_is_house_name)) qa_nil) db_law_is_house__law_is)))))) (qss_one (qs_ret qe_bl)) qss_nil)))
    (qss_one (qs_ret qe_bl))))))), ?_⟩
  rcases hT with ⟨t, ht, hasc, hnp, qf⟩ | ⟨h, g, c, kg, lg, kr, lr, tg, tr, rfl, B, q⟩
  · have ty := ht.ty
    have ki := ht.isi kd (c := "tuple") (by simp [tys])
    walk_at "vs"
    cases ht with
    | @tup a vs ts e hs =>
      refine itB_f (by simp [subT, tyTh]) ?_
      clear ki ty
      walk_at "vs"
      refine ite2 (fun c1 => ?_) (fun c1 => ?_)
      · walk_at "vs"
        exact qf _ (Same.refl _)
      · have hl : vs.length = 2 := by
          have := Bool.eq_false_iff.mpr c1
          simp at this
          omega
        obtain ⟨x, y, rfl⟩ : ∃ x y, vs = [x, y] := by
          rcases vs with _ | ⟨x, _ | ⟨y, _ | ⟨z, r⟩⟩⟩ <;> simp at hl
          exact ⟨x, y, rfl⟩
        cases hs with
        | @cons _ tx _ _ hx hs =>
          cases hs with
          | @cons _ ty' _ _ hy hs =>
            cases hs
            have e0 : atI [x, y] 0 = some x := rfl
            have e1 : atI [x, y] 1 = some y := rfl
            walk_at "vs"
            refine .inl ⟨x, "dict", _, _, rfl, hx.ty, hx.isi kd (c := "dict") (by simp [tys]), ?_⟩
            walk_at "vs"
            rcases hnp _ _ rfl with hd | hd
            · have : subT (tyTh tx) "dict" = false := by simp [subT, hd]
              rw [this]
              walk_at "vs"
              exact qf _ (Same.refl _)
            · cases hb : subT (tyTh tx) "dict" with
              | false =>
                walk_at "vs"
                exact qf _ (Same.refl _)
              | true =>
                walk_at "vs"
                refine .inl ⟨y, "dict", _, _, rfl, hy.ty, hy.isi kd (c := "dict") (by simp [tys]), ?_⟩
                have : subT (tyTh ty') "dict" = false := by simp [subT, hd]
                rw [this]
                walk_at "vs"
                exact qf _ (Same.refl _)
    | non =>
      refine itB_t (by simp [subT, tyTh]) ?_
      walk_at "vs"
      exact qf _ (Same.refl _)
    | bl b =>
      refine itB_t (by simp [subT, tyTh]) ?_
      walk_at "vs"
      exact qf _ (Same.refl _)
    | int i =>
      refine itB_t (by simp [subT, tyTh]) ?_
      walk_at "vs"
      exact qf _ (Same.refl _)
    | str x =>
      refine itB_t (by simp [subT, tyTh]) ?_
      walk_at "vs"
      exact qf _ (Same.refl _)
    | oth h1 h2 h3 =>
      refine itB_t (by rcases h2 with rfl | rfl <;> simp [subT, tyTh]) ?_
      walk_at "vs"
      exact qf _ (Same.refl _)
  · have eh := B.eh
    have tyh : TyOf K H (.ref h) (.type "tuple") := .tup eh
    rw [← house_eq] at q
    walk_at "vs"
    refine .inr ⟨g, kg, lg, rfl, B.dg, ?_⟩
    walk_at "vs"
    refine .inr ⟨c, kr, lr, rfl, B.dc, ?_⟩
    walk_at "vs"
    refine ⟨B.dg, fun o1 f1 => ?_⟩
    have b1 : But [g, c] H (upd H g (fixO g o1)) := But.set _ (by simp)
    have B1 := B.fixG f1
    have e1 : upd H g (fixO g o1) g = some (fixO g o1) := upd_same
    generalize upd H g (fixO g o1) = H1 at b1 B1 e1 ⊢
    have fin : ∀ H2, But [g, c] H1 H2 → HB P w H2 h g c kg lg kr lr tg tr → Q (.bl (houseL tg tr)) H2 := fun H2 b2 B2 => q H2 (b1.trans b2) B2
    clear q b1 B eh tyh
    refine for_dictR (fun i σ Hc => Wr (∃ (t3 : Option V), σ = [some (.ref h), some (.ref g), some (.ref c), t3] ∧ Same H1 Hc ∧ (tg.take i).all (fun p => nameT p.1 && wholeT p.2 && !hasK p.1 tr) = true)) ?_ ?_ ?_ ?_
    · exact .mk ⟨_, rfl, Same.refl _, rfl⟩
    · intro i σ Hc _ hP
      obtain ⟨_, _, s1, _⟩ := hP.h
      exact s1 _ _ e1
    · intro i k v σ Hc hkv hP
      obtain ⟨t3, rfl, s1, hall⟩ := hP.h
      clear hP
      obtain ⟨⟨tk, tv⟩, htk, ⟨k1, k2⟩, v1, v2⟩ := paired_at B1.eg hkv
      have hx : IsTh K Hc k tk := (k1.same s1).isTh
      walk_at "vs"
      intro H3 s3
      have s13 := s1.trans s3
      cases hn : nameT tk with
      | false =>
        walk_at "vs"
        have hf : houseL tg tr = false := by unfold houseL; rw [all_false htk (by simp [hn])]; rfl
        rw [hf] at fin
        exact fin _ (But.of_same s13) (B1.same s13)
      | true =>
        have hv : IsTh K H3 v tv := (v1.same s13).isTh
        have B3 := B1.same s13
        clear hx
        obtain ⟨x, rfl⟩ : ∃ x, tk = .str x := by cases tk <;> simp [nameT] at hn; exact ⟨_, rfl⟩
        obtain rfl : k = .str x := by cases k1; rfl
        walk_at "vs"
        refine ⟨B3.dg, B3.og, ent_val B3.og B3.xg (fix_nodup f1) hkv, ?_⟩
        walk_at "vs"
        cases hw : wholeT tv with
        | false =>
          walk_at "vs"
          have hf : houseL tg tr = false := by unfold houseL; rw [all_false htk (by simp [hw])]; rfl
          rw [hf] at fin
          exact fin _ (But.of_same s13) (B1.same s13)
        | true =>
          walk_at "vs"
          refine ⟨B3.dc, B3.oc, ?_⟩
          rw [← has_val B3.oc x B3.xc B3.ec]
          cases hk : hasK (.str x) tr with
          | true =>
            walk_at "vs"
            have hf : houseL tg tr = false := by unfold houseL; rw [all_false htk (by simp [hk])]; rfl
            rw [hf] at fin
            exact fin _ (But.of_same s13) (B1.same s13)
          | false =>
            walk_at "vs"
            exact .mk ⟨_, rfl, s13, all_take htk hall (by simp [hn, hw, hk])⟩
    · intro σ Hc hP
      obtain ⟨t3, rfl, s1, hall⟩ := hP.h
      clear hP
      have hall : tg.all (fun p => nameT p.1 && wholeT p.2 && !hasK p.1 tr) = true := by
        have hl : (ents kg lg).length = tg.length := Paired.length B1.eg
        rw [hl, List.take_length] at hall; exact hall
      have B2 := B1.same s1
      walk_at "vs"
      refine ⟨B2.dc, fun o2 f2 => ?_⟩
      have b3 : But [g, c] H1 (upd Hc c (fixO c o2)) := (But.of_same s1).trans (But.set _ (by simp))
      have B3 := B2.fixC f2
      have e3 : upd Hc c (fixO c o2) c = some (fixO c o2) := upd_same
      generalize upd Hc c (fixO c o2) = H3 at b3 B3 e3 ⊢
      replace fin : ∀ H2, Same H3 H2 → Q (.bl (houseL tg tr)) H2 := fun H2 s => fin H2 (b3.trans (But.of_same s)) (B3.same s)
      have hh : houseL tg tr = tr.all fun p => nameT p.1 && decide (szN 8 p.2 ≤ 100) := by unfold houseL; rw [hall]; rfl
      rw [hh] at fin
      clear b3 B2 B1 e1 s1 hh
      refine for_dictR (fun i σ Hc => Wr (∃ (t3 : Option V), σ = [some (.ref h), some (.ref g), some (.ref c), t3] ∧ Same H3 Hc ∧ (tr.take i).all (fun p => nameT p.1 && decide (szN 8 p.2 ≤ 100)) = true)) ?_ ?_ ?_ ?_
      · exact .mk ⟨_, rfl, Same.refl _, rfl⟩
      · intro i σ Hc _ hP
        obtain ⟨_, _, s1, _⟩ := hP.h
        exact s1 _ _ e3
      · intro i k v σ Hd hkv hP
        obtain ⟨t3, rfl, s1, hall⟩ := hP.h
        clear hP
        obtain ⟨⟨tk, tv⟩, htk, ⟨k1, k2⟩, v1, v2⟩ := paired_at B3.ec hkv
        have hx : IsTh K Hd k tk := (k1.same s1).isTh
        walk_at "vs"
        intro H5 s5
        have s15 := s1.trans s5
        cases hn : nameT tk with
        | false =>
          walk_at "vs"
          rw [all_false htk (by simp [hn])] at fin
          exact fin _ s15
        | true =>
          clear hx
          have B5 := B3.same s15
          obtain ⟨x, rfl⟩ : ∃ x, tk = .str x := by cases tk <;> simp [nameT] at hn; exact ⟨_, rfl⟩
          obtain rfl : k = .str x := by cases k1; rfl
          have hv : IsTh K H5 v tv := (v1.same s15).isTh
          walk_at "vs"
          refine ⟨B5.dc, B5.oc, ent_val B5.oc B5.xc (fix_nodup f2) hkv, ?_⟩
          walk_at "vs"
          intro H6 s6
          cases hz : decide (szN 8 tv ≤ 100) with
          | false =>
            walk_at "vs"
            rw [all_false htk (by simp only [hz, Bool.and_false])] at fin
            exact fin _ (s15.trans s6)
          | true =>
            walk_at "vs"
            exact .mk ⟨_, rfl, s15.trans s6, all_take htk hall (by simp only [hn, hz]; rfl)⟩
      · intro σ Hd hP
        obtain ⟨t3, rfl, s1, hall⟩ := hP.h
        have hl : (ents kr lr).length = tr.length := Paired.length B3.ec
        rw [hl, List.take_length] at hall
        rw [hall] at fin
        exact fin _ s1
end

section
variable {P : Program} {w : World} {K : PySem.W.Frag} {mg : Str → Option Value} {base : Heap}
theorem but_upd {S : List Addr} {H H' : Hp} {g : Addr} (o : HO) (b : But S H H') (hg : H g = none) : But S H (upd H' g o) := fun y u ny e => (upd_ne (ne_of_none e hg)).trans (b y u ny e)
noncomputable abbrev s_law_house : Stmt := top 27
theorem sc_law_house : FnScope ["deck", "given", "recipes", "k", "name", "r"] ["deck"] (defScope s_law_house) := ⟨rfl, rfl, rfl, by decide +kernel, rfl, by decide +kernel, by decide +kernel⟩
theorem lo_law_house_given : Loc (defScope s_law_house) "given" := by decide +kernel
theorem lo_law_house_recipes : Loc (defScope s_law_house) "recipes" := by decide +kernel
theorem gl_law_house_range : (defScope s_law_house).names.lookup ("range" : Str) = some NameKind.globalImplicit := by decide +kernel
theorem gl_law_house__law_draw : (defScope s_law_house).names.lookup ("_law_draw" : Str) = some NameKind.globalImplicit := by decide +kernel
theorem vo_law_house_deck : VarOk (defScope s_law_house) "deck" := by decide +kernel
theorem db_law_house__law_draw : (("_law_draw" : Str) == ("__debug__" : Str)) = false := by decide +kernel
theorem lo_law_house_k : Loc (defScope s_law_house) "k" := by decide +kernel
theorem vo_law_house_given : VarOk (defScope s_law_house) "given" := by decide +kernel
theorem gl_law_house__law_name : (defScope s_law_house).names.lookup ("_law_name" : Str) = some NameKind.globalImplicit := by decide +kernel
theorem db_law_house__law_name : (("_law_name" : Str) == ("__debug__" : Str)) = false := by decide +kernel
theorem gl_law_house__law_number : (defScope s_law_house).names.lookup ("_law_number" : Str) = some NameKind.globalImplicit := by decide +kernel
theorem db_law_house__law_number : (("_law_number" : Str) == ("__debug__" : Str)) = false := by decide +kernel
theorem lo_law_house_name : Loc (defScope s_law_house) "name" := by decide +kernel
theorem lo_law_house_r : Loc (defScope s_law_house) "r" := by decide +kernel
theorem gl_law_house__law_recipe : (defScope s_law_house).names.lookup ("_law_recipe" : Str) = some NameKind.globalImplicit := by decide +kernel
theorem db_law_house__law_recipe : (("_law_recipe" : Str) == ("__debug__" : Str)) = false := by decide +kernel
theorem vo_law_house_name : VarOk (defScope s_law_house) "name" := by decide +kernel
theorem vo_law_house_recipes : VarOk (defScope s_law_house) "recipes" := by decide +kernel
theorem vo_law_house_r : VarOk (defScope s_law_house) "r" := by decide +kernel
theorem ok_law_house {f g1 g2 g3 g4 : Addr} {fd gd1 gd2 gd3 gd4 : FuncData} (T_law_house : FnT K mg "_law_house" s_law_house ["deck"] f fd)
    (T_law_draw : FnT K mg "_law_draw" s_law_draw ["deck", "many"] g1 gd1) (G_law_draw : FnOk P w K mg base CX0 1 g1 gd1 ["deck", "many"] spDraw)
    (T_law_name : FnT K mg "_law_name" s_law_name ["deck"] g2 gd2) (G_law_name : FnOk P w K mg base CX0 2 g2 gd2 ["deck"] spName)
    (T_law_number : FnT K mg "_law_number" s_law_number ["deck"] g3 gd3) (G_law_number : FnOk P w K mg base CX0 2 g3 gd3 ["deck"] spNumber)
    (T_law_recipe : FnT K mg "_law_recipe" s_law_recipe ["deck", "deep", "left"] g4 gd4) (G_law_recipe : FnOk P w K mg base CX0 8 g4 gd4 ["deck", "deep", "left"] (spRec2 6))
    (T : Blt mg) : FnOk P w K mg base CX0 9 f fd ["deck"] spMkHouse := by
  refine T_law_house.F.okQ sc_law_house (fun vs H Q E h => ?_) (fun cdv A outer s H vs Q E hr h => ?_)
  · obtain ⟨d, c, rfl, _⟩ := h
    rfl
  obtain ⟨d, c, rfl, D0, q⟩ := h
  refine ⟨_, (qss_cons (qs_set (i := 1) sc_law_house.nd rfl lo_law_house_given qe_dnewK)
    (qss_cons (qs_set (i := 2) sc_law_house.nd rfl lo_law_house_recipes qe_dnewK)
    (qss_cons (qs_for PassesOwn.never rfl (qi_range1 gl_law_house_range T.b_range (qa_F (qe_call (G_law_draw.mono (by omega)) hr gl_law_house__law_draw T_law_draw.m T_law_draw.F.kp T_law_draw.b .nil pass0 (qa_N (qe_var 0 vo_law_house_deck) (qa_C qe_int qa_nil)) db_law_house__law_draw) qa_nil)) (qg_name (i := 3) sc_law_house.nd rfl lo_law_house_k) (qss_one (qs_dput (hu_of hr) (qe_var 1 vo_law_house_given) (qe_call (G_law_name.mono (by omega)) hr gl_law_house__law_name T_law_name.m T_law_name.F.kp T_law_name.b .nil pass0 (qa_N (qe_var 0 vo_law_house_deck) qa_nil) db_law_house__law_name) (qe_call (G_law_number.mono (by omega)) hr gl_law_house__law_number T_law_number.m T_law_number.F.kp T_law_number.b .nil pass0 (qa_N (qe_var 0 vo_law_house_deck) qa_nil) db_law_house__law_number))))
    (qss_cons (qs_for PassesOwn.never rfl (qi_range1 gl_law_house_range T.b_range (qa_F (qe_call (G_law_draw.mono (by omega)) hr gl_law_house__law_draw T_law_draw.m T_law_draw.F.kp T_law_draw.b .nil pass0 (qa_N (qe_var 0 vo_law_house_deck) (qa_C qe_int qa_nil)) db_law_house__law_draw) qa_nil)) (qg_name (i := 3) sc_law_house.nd rfl lo_law_house_k) (qss_cons (qs_set (i := 4) sc_law_house.nd rfl lo_law_house_name (qe_call (G_law_name.mono (by omega)) hr gl_law_house__law_name T_law_name.m T_law_name.F.kp T_law_name.b .nil pass0 (qa_N (qe_var 0 vo_law_house_deck) qa_nil) db_law_house__law_name))
    (qss_cons (qs_set (i := 5) sc_law_house.nd rfl lo_law_house_r (qe_call (G_law_recipe.mono (by omega)) hr gl_law_house__law_recipe T_law_recipe.m T_law_recipe.F.kp T_law_recipe.b .nil pass0 (qa_N (qe_var 0 vo_law_house_deck) (qa_B (qe_op qop_add qe_int (qe_call (G_law_draw.mono (by omega)) hr gl_law_house__law_draw T_law_draw.m T_law_draw.F.kp T_law_draw.b .nil pass0 (qa_N (qe_var 0 vo_law_house_deck) (qa_C qe_int qa_nil)) db_law_house__law_draw)) (qa_L (qe_lst (qa_C qe_int qa_nil)) qa_nil))) db_law_house__law_recipe))
    (qss_one (qs_if (qt_dnotin (hu_of hr) (qe_var 4 vo_law_house_name) (qe_var 1 vo_law_house_given)) (qss_one (qs_dput (hu_of hr) (qe_var 2 vo_law_house_recipes) (qe_var 4 vo_law_house_name) (qe_var 5 vo_law_house_r))) qss_nil)))))
    (qss_one (qs_ret (qe_tup (qa_N (qe_var 1 vo_law_house_given) (qa_N (qe_var 2 vo_law_house_recipes) qa_nil))))))))), ?_⟩
  walk_at "vs"
  intro g hg
  have D1 := D0.upd (.dK []) (D0.fresh hg)
  have b1 : But [d, c] H (upd H g (.dK [])) := But.new _ hg
  have ng := D0.fresh hg
  have e1 : upd H g (.dK []) g = some (.dK []) := upd_same
  generalize upd H g (.dK []) = H1 at *
  walk_at "vs"
  intro r hrn
  have D2 := D1.upd (.dK []) (D1.fresh hrn)
  have b2 : But [d, c] H (upd H1 r (.dK [])) := b1.trans (But.new _ hrn)
  have nr := D1.fresh hrn
  have ngr : g ≠ r := ne_of_none e1 hrn
  have e2 : upd H1 r (.dK []) g = some (.dK []) := (upd_ne ngr).trans e1
  have e3 : upd H1 r (.dK []) r = some (.dK []) := upd_same
  generalize upd H1 r (.dK []) = H2 at *
  have hr0 : H r = none := by
    cases z : H r with
    | none => rfl
    | some o => have := b1 r o nr z; rw [hrn] at this; cases this
  clear e1 D1 b1 hrn
  walk_at "vs"
  intro n1 H3 p1 p2 b3 D3
  have lo1 : -(2 ^ 62) ≤ n1 := Int.le_trans (by decide) p1
  have hi1 : n1 < 2 ^ 62 := Int.lt_trans p2 (by decide)
  have eg3 := b3 _ _ ng e2
  have er3 := b3 _ _ nr e3
  have b03 := b2.trans b3
  clear b2 b3 e2 e3 D2 D0
  walk_at "vs"
  refine for_range (fun i σ Hc => Wr (∃ (t3 t4 t5 : Option V) (kg : List (Key × V)), σ = [some (.ref d), some (.ref g), some (.ref r), t3, t4, t5] ∧ But [d, c] H Hc ∧ DeckAt Hc d c ∧ Hc g = some (.dK kg) ∧ Hc r = some (.dK []) ∧ GoodN kg ∧ kg.length ≤ i)) ?_ ?_ ?_
  · exact .mk ⟨_, _, _, [], rfl, b03, D3, eg3, er3, (fun p hp => by simp at hp), Nat.le_refl _⟩
  · intro i σ Hc hi hP
    obtain ⟨t3, t4, t5, kg, rfl, b4, D4, eg4, er4, hgn, hlen⟩ := hP.h
    clear hP
    have hi6 : i < 6 := by omega
    walk_at "vs"
    intro n H5 _ b5 D5
    have eg5 := b5 _ _ ng eg4
    have er5 := b5 _ _ nr er4
    walk_at "vs"
    intro x H6 gx b6 D6
    have eg6 := b6 _ _ ng eg5
    have er6 := b6 _ _ nr er5
    have hz : kg.length < sizeLine := small1000 (by omega)
    have hput : DPut H6 g (.str x) (.int n) (upd H6 g (.dK (putK kg (.inr x) (.int n)))) := .inl ⟨kg, .inr x, eg6, rfl, hz, rfl⟩
    walk_at "vs"
    refine .mk ⟨_, _, _, putK kg (.inr x) (.int n), rfl, but_upd _ (b4.trans (b5.trans b6)) hg, D6.upd _ ng, upd_same, (upd_ne (Ne.symm ngr)).trans er6, ?_, ?_⟩
    · intro p hp
      rcases mem_putK hp with rfl | z
      · exact ⟨x, n, rfl, gx⟩
      · exact hgn p z
    · have := length_putK kg (Sum.inr x) (V.int n)
      omega
  · intro σ Hc hP
    obtain ⟨t3, t4, t5, kg, rfl, b4, D4, eg4, er4, hgn, hlen⟩ := hP.h
    clear hP
    have hlg : kg.length ≤ 6 := by omega
    walk_at "vs"
    intro n2 H5 q1 q2 b5 D5
    have lo2 : -(2 ^ 62) ≤ n2 := Int.le_trans (by decide) q1
    have hi2 : n2 < 2 ^ 62 := Int.lt_trans q2 (by decide)
    have eg5 := b5 _ _ ng eg4
    have er5 := b5 _ _ nr er4
    have b05 := b4.trans b5
    clear b4 b5 eg4 er4 D4
    walk_at "vs"
    refine for_range (fun i σ Hc => Wr (∃ (t3 t4 t5 : Option V) (kr : List (Key × V)), σ = [some (.ref d), some (.ref g), some (.ref r), t3, t4, t5] ∧ But [d, c] H Hc ∧ DeckAt Hc d c ∧ Hc g = some (.dK kg) ∧ Hc r = some (.dK kr) ∧ GoodH Hc kr ∧ (∀ p ∈ kr, valV kg p.1 = none) ∧ kr.length ≤ i)) ?_ ?_ ?_
    · exact .mk ⟨_, _, _, [], rfl, b05, D5, eg5, er5, (fun p hp => by simp at hp), (fun p hp => by simp at hp), Nat.le_refl _⟩
    · intro i σ Hc hi hP
      obtain ⟨t3, t4, t5, kr, rfl, b6, D6, eg6, er6, hgh, hdj, hlr⟩ := hP.h
      clear hP b05 D5 eg5 er5
      have hi6 : i < 6 := by omega
      walk_at "vs"
      intro x H7 gx b7 D7
      have eg7 := b7 _ _ ng eg6
      have er7 := b7 _ _ nr er6
      have gh7 := goodH_tups (D6.tups b7) hgh
      have b07 := b6.trans b7
      clear hgh b6 b7 eg6 er6 D6
      walk_at "vs"
      intro n H8 w1 w2 b8 D8
      have eg8 := b8 _ _ ng eg7
      have er8 := b8 _ _ nr er7
      have gh8 := goodH_tups (D7.tups b8) gh7
      have b08 := b07.trans b8
      clear gh7 b07 b8 eg7 er7 D7
      walk_at "vs"
      intro l hl
      have D9 := D8.same (same_new (.lst [V.int 8]) hl)
      have hfr := D8.fresh hl
      have ld : l ≠ d := fun z => hfr (by simp [z])
      have lc : l ≠ c := fun z => hfr (by simp [z])
      have hl9 : upd H8 l (.lst [V.int 8]) l = some (.lst [V.int 8]) := upd_same
      have w3 : 1 ≤ 1 + n := by omega
      have w4 : 1 + n ≤ ((6 : Nat) : Int) := by omega
      walk_at "vs"
      intro a rr k' H10 g10 d10 z10 b10 D10 hl10 R10
      have b810 := but_drop hl b10
      have eg10 := b810 _ _ ng eg8
      have er10 := b810 _ _ nr er8
      have gh10 := goodH_tups (D8.tups b810) gh8
      have b010 := b08.trans b810
      have hnd : rr.nodes ≤ 100 := by
        obtain ⟨z1, z2, _⟩ := z10
        have := z2 (by decide)
        omega
      clear gh8 b08 b810 b10 eg8 er8 D8 D9 hl9 hl10 hl
      have hdg : DGet H10 g (.str x) (valV kg (.inr x)) := DGet.k (k := .inr x) eg10
      walk_at "vs"
      refine ite2 (fun c1 => ?_) (fun c1 => ?_)
      · have hv : valV kg (.inr x) = none := by
          cases z : valV kg (.inr x) with
          | none => rfl
          | some v => rw [z] at c1; exact absurd c1 (by simp)
        have hz : kr.length < sizeLine := small1000 (by omega)
        have hput : DPut H10 r (.str x) (.ref a) (upd H10 r (.dK (putK kr (.inr x) (.ref a)))) := .inl ⟨kr, .inr x, er10, rfl, hz, rfl⟩
        have tu : Tups H10 (upd H10 r (.dK (putK kr (.inr x) (.ref a)))) := fun y xs z => (upd_ne (fun w => by rw [w, er10] at z; cases z)).trans z
        clear hdg
        walk_at "vs"
        refine .mk ⟨_, _, _, putK kr (.inr x) (.ref a), rfl, but_upd _ b010 hr0, D10.upd _ nr, (upd_ne ngr).trans eg10, upd_same, ?_, ?_, ?_⟩
        · intro p hp
          rcases mem_putK hp with rfl | z
          · exact ⟨x, a, rr, rfl, gx, R10.tups tu, g10, hnd, by omega⟩
          · exact goodH_tups tu gh10 p z
        · intro p hp
          rcases mem_putK hp with rfl | z
          · exact hv
          · exact hdj p z
        · have := length_putK kr (Sum.inr x) (V.ref a)
          omega
      · walk_at "vs"
        exact .mk ⟨_, _, _, kr, rfl, b010, D10, eg10, er10, gh10, hdj, by omega⟩
    · intro σ Hc hP
      obtain ⟨t3, t4, t5, kr, rfl, b6, D6, eg6, er6, hgh, hdj, hlr⟩ := hP.h
      clear hP b05 D5 eg5 er5
      walk_at "vs"
      intro h hh
      have S := same_new (.tup [V.ref g, V.ref r]) hh
      exact q h g r kg kr _ (b6.trans (But.of_same S)) (D6.same S) upd_same ⟨S _ _ eg6, S _ _ er6, ngr, hgn, goodH_tups (Same.tups S) hgh, hdj, hlg, by omega⟩
end

section
variable {P : Program} {w : World} {K : PySem.W.Frag} {mg : Str → Option Value} {base : Heap}
noncomputable abbrev s_law_copy : Stmt := top 30
theorem sc_law_copy : FnScope ["house"] ["house"] (defScope s_law_copy) := ⟨rfl, rfl, rfl, by decide +kernel, rfl, by decide +kernel, by decide +kernel⟩
theorem gl_law_copy_dict : (defScope s_law_copy).names.lookup ("dict" : Str) = some NameKind.globalImplicit := by decide +kernel
theorem vo_law_copy_house : VarOk (defScope s_law_copy) "house" := by decide +kernel
theorem nn_law_copy_dict : ("dict" : Str) ≠ "__name__" := by decide +kernel
theorem db_law_copy_dict : (("dict" : Str) == ("__debug__" : Str)) = false := by decide +kernel
theorem ok_law_copy {f : Addr} {fd : FuncData} (T_law_copy : FnT K mg "_law_copy" s_law_copy ["house"] f fd) (T : Blt mg) : FnOk P w K mg base CX0 1 f fd ["house"] spCopy := by
  refine T_law_copy.F.okQ sc_law_copy (fun vs H Q E h => ?_) (fun cdv A outer s H vs Q E hr h => ?_)
  · obtain ⟨h, g, r, kg, kr, rfl, _⟩ := h
    rfl
  obtain ⟨h, g, r, kg, kr, rfl, eh, eg, er, q⟩ := h
  refine ⟨_, (qss_one (qs_ret (qe_tup (qa_F (qe_callTy qc_dictD gl_law_copy_dict T.b_dict bt_dict (qa_S (qe_ix qix_tup (qe_var 0 vo_law_copy_house) qe_int) qa_nil) nn_law_copy_dict db_law_copy_dict) (qa_F (qe_callTy qc_dictD gl_law_copy_dict T.b_dict bt_dict (qa_S (qe_ix qix_tup (qe_var 0 vo_law_copy_house) qe_int) qa_nil) nn_law_copy_dict db_law_copy_dict) qa_nil))))), ?_⟩
  walk_at "vs"
  intro g' hg'
  have S1 := same_new (.dK kg) hg'
  have e1 : upd H g' (.dK kg) g' = some (.dK kg) := upd_same
  have eh1 := S1 _ _ eh
  have er1 := S1 _ _ er
  generalize upd H g' (.dK kg) = H1 at *
  walk_at "vs"
  intro r' hr'
  have S2 := same_new (.dK kr) hr'
  have e2 := S2 _ _ e1
  have e3 : upd H1 r' (.dK kr) r' = some (.dK kr) := upd_same
  have ne : g' ≠ r' := ne_of_none e1 hr'
  have hr0 : H r' = none := by
    cases z : H r' with
    | none => rfl
    | some o => have := S1 _ _ z; rw [hr'] at this; cases this
  generalize upd H1 r' (.dK kr) = H2 at *
  walk_at "vs"
  intro h' hh'
  have S3 := same_new (.tup [V.ref g', V.ref r']) hh'
  exact q h' g' r' _ (S1.trans (S2.trans S3)) hg' hr0 ne upd_same (S3 _ _ e2) (S3 _ _ e3)
noncomputable abbrev s_law_bad : Stmt := top 29
theorem sc_law_bad : FnScope ["house", "deck", "given", "recipes", "way", "key", "r", "name", "other"] ["house", "deck"] (defScope s_law_bad) := ⟨rfl, rfl, rfl, by decide +kernel, rfl, by decide +kernel, by decide +kernel⟩
theorem lo_law_bad_given : Loc (defScope s_law_bad) "given" := by decide +kernel
theorem gl_law_bad_dict : (defScope s_law_bad).names.lookup ("dict" : Str) = some NameKind.globalImplicit := by decide +kernel
theorem vo_law_bad_house : VarOk (defScope s_law_bad) "house" := by decide +kernel
theorem nn_law_bad_dict : ("dict" : Str) ≠ "__name__" := by decide +kernel
theorem db_law_bad_dict : (("dict" : Str) == ("__debug__" : Str)) = false := by decide +kernel
theorem lo_law_bad_recipes : Loc (defScope s_law_bad) "recipes" := by decide +kernel
theorem lo_law_bad_way : Loc (defScope s_law_bad) "way" := by decide +kernel
theorem gl_law_bad__law_draw : (defScope s_law_bad).names.lookup ("_law_draw" : Str) = some NameKind.globalImplicit := by decide +kernel
theorem vo_law_bad_deck : VarOk (defScope s_law_bad) "deck" := by decide +kernel
theorem db_law_bad__law_draw : (("_law_draw" : Str) == ("__debug__" : Str)) = false := by decide +kernel
theorem lo_law_bad_key : Loc (defScope s_law_bad) "key" := by decide +kernel
theorem vo_law_bad_way : VarOk (defScope s_law_bad) "way" := by decide +kernel
theorem vo_law_bad_given : VarOk (defScope s_law_bad) "given" := by decide +kernel
theorem vo_law_bad_key : VarOk (defScope s_law_bad) "key" := by decide +kernel
theorem vo_law_bad_recipes : VarOk (defScope s_law_bad) "recipes" := by decide +kernel
theorem gl_law_bad__law_name : (defScope s_law_bad).names.lookup ("_law_name" : Str) = some NameKind.globalImplicit := by decide +kernel
theorem db_law_bad__law_name : (("_law_name" : Str) == ("__debug__" : Str)) = false := by decide +kernel
theorem lo_law_bad_r : Loc (defScope s_law_bad) "r" := by decide +kernel
theorem gl_law_bad__law_recipe : (defScope s_law_bad).names.lookup ("_law_recipe" : Str) = some NameKind.globalImplicit := by decide +kernel
theorem db_law_bad__law_recipe : (("_law_recipe" : Str) == ("__debug__" : Str)) = false := by decide +kernel
theorem gl_law_bad__law_spoilt : (defScope s_law_bad).names.lookup ("_law_spoilt" : Str) = some NameKind.globalImplicit := by decide +kernel
theorem vo_law_bad_r : VarOk (defScope s_law_bad) "r" := by decide +kernel
theorem db_law_bad__law_spoilt : (("_law_spoilt" : Str) == ("__debug__" : Str)) = false := by decide +kernel
theorem lo_law_bad_name : Loc (defScope s_law_bad) "name" := by decide +kernel
theorem vo_law_bad_name : VarOk (defScope s_law_bad) "name" := by decide +kernel
theorem lo_law_bad_other : Loc (defScope s_law_bad) "other" := by decide +kernel
theorem vo_law_bad_other : VarOk (defScope s_law_bad) "other" := by decide +kernel
theorem ok_law_bad {f g1 g2 g3 g4 : Addr} {fd gd1 gd2 gd3 gd4 : FuncData} (T_law_bad : FnT K mg "_law_bad" s_law_bad ["house", "deck"] f fd)
    (T_law_draw : FnT K mg "_law_draw" s_law_draw ["deck", "many"] g1 gd1) (G_law_draw : FnOk P w K mg base CX0 1 g1 gd1 ["deck", "many"] spDraw)
    (T_law_name : FnT K mg "_law_name" s_law_name ["deck"] g2 gd2) (G_law_name : FnOk P w K mg base CX0 2 g2 gd2 ["deck"] spName)
    (T_law_recipe : FnT K mg "_law_recipe" s_law_recipe ["deck", "deep", "left"] g3 gd3) (G_law_recipe : FnOk P w K mg base CX0 8 g3 gd3 ["deck", "deep", "left"] (spRec2 6))
    (T_law_spoilt : FnT K mg "_law_spoilt" s_law_spoilt ["r", "deck"] g4 gd4) (G_law_spoilt : FnOk P w K mg base CX0 9 g4 gd4 ["r", "deck"] (spSpoiltS 6))
    (T : Blt mg) : FnOk P w K mg base CX0 10 f fd ["house", "deck"] (spBad P w K) := by
  refine T_law_bad.F.okQ sc_law_bad (fun vs H Q E h => ?_) (fun cdv A outer s H vs Q E hr h => ?_)
  · obtain ⟨h, d, c, g, r, kg, kr, rfl, _⟩ := h
    rfl
  obtain ⟨h, d, c, g0, r0, kg, kr, rfl, eh, G, D0, q⟩ := h
  have eg0 := G.eg
  have er0 := G.er
  refine ⟨_, (qss_cons (qs_set (i := 2) sc_law_bad.nd rfl lo_law_bad_given (qe_callTy qc_dictD gl_law_bad_dict T.b_dict bt_dict (qa_S (qe_ix qix_tup (qe_var 0 vo_law_bad_house) qe_int) qa_nil) nn_law_bad_dict db_law_bad_dict))
    (qss_cons (qs_set (i := 3) sc_law_bad.nd rfl lo_law_bad_recipes (qe_callTy qc_dictD gl_law_bad_dict T.b_dict bt_dict (qa_S (qe_ix qix_tup (qe_var 0 vo_law_bad_house) qe_int) qa_nil) nn_law_bad_dict db_law_bad_dict))
    (qss_cons (qs_set (i := 4) sc_law_bad.nd rfl lo_law_bad_way (qe_call (G_law_draw.mono (by omega)) hr gl_law_bad__law_draw T_law_draw.m T_law_draw.F.kp T_law_draw.b .nil pass0 (qa_N (qe_var 1 vo_law_bad_deck) (qa_C qe_int qa_nil)) db_law_bad__law_draw))
    (qss_cons (qs_set (i := 5) sc_law_bad.nd rfl lo_law_bad_key (qe_ix qix_list (qe_lst (qa_C qe_str (qa_C qe_str (qa_C qe_int (qa_C qe_str (qa_C qe_non (qa_T (qe_tup (qa_C qe_str qa_nil)) (qa_C qe_bl (qa_C qe_str (qa_C qe_str qa_nil)))))))))) (qe_call (G_law_draw.mono (by omega)) hr gl_law_bad__law_draw T_law_draw.m T_law_draw.F.kp T_law_draw.b .nil pass0 (qa_N (qe_var 1 vo_law_bad_deck) (qa_C qe_int qa_nil)) db_law_bad__law_draw)))
    (qss_cons (qs_if (qt_cmp qop_eq (qe_var 4 vo_law_bad_way) qe_int (nomarkQ _)) (qss_one (qs_xput (P := P) (w := w) rfl rfl hr.units (qe_var 2 vo_law_bad_given) (qe_var 5 vo_law_bad_key) qe_int)) qss_nil)
    (qss_cons (qs_if (qt_cmp qop_eq (qe_var 4 vo_law_bad_way) qe_int (nomarkQ _)) (qss_one (qs_xput (P := P) (w := w) rfl rfl hr.units (qe_var 3 vo_law_bad_recipes) (qe_var 5 vo_law_bad_key) (qe_tup (qa_C qe_str (qa_C qe_int qa_nil))))) qss_nil)
    (qss_cons (qs_if (qt_cmp qop_eq (qe_var 4 vo_law_bad_way) qe_int (nomarkQ _)) (qss_one (qs_dput (hu_of hr) (qe_var 2 vo_law_bad_given) (qe_call (G_law_name.mono (by omega)) hr gl_law_bad__law_name T_law_name.m T_law_name.F.kp T_law_name.b .nil pass0 (qa_N (qe_var 1 vo_law_bad_deck) qa_nil) db_law_bad__law_name) (qe_ix qix_list (qe_lst (qa_C qe_bl (qa_C qe_non (qa_C qe_str (qa_T (qe_tup qa_nil) (qa_L (qe_lst qa_nil) (qa_T (qe_tup (qa_C qe_str (qa_C qe_int qa_nil))) qa_nil))))))) (qe_call (G_law_draw.mono (by omega)) hr gl_law_bad__law_draw T_law_draw.m T_law_draw.F.kp T_law_draw.b .nil pass0 (qa_N (qe_var 1 vo_law_bad_deck) (qa_C qe_int qa_nil)) db_law_bad__law_draw)))) qss_nil)
    (qss_cons (qs_if (qt_cmp qop_eq (qe_var 4 vo_law_bad_way) qe_int (nomarkQ _)) (qss_cons (qs_set (i := 6) sc_law_bad.nd rfl lo_law_bad_r (qe_call (G_law_recipe.mono (by omega)) hr gl_law_bad__law_recipe T_law_recipe.m T_law_recipe.F.kp T_law_recipe.b .nil pass0 (qa_N (qe_var 1 vo_law_bad_deck) (qa_C qe_int (qa_L (qe_lst (qa_C qe_int qa_nil)) qa_nil))) db_law_bad__law_recipe))
    (qss_one (qs_dput (hu_of hr) (qe_var 3 vo_law_bad_recipes) (qe_call (G_law_name.mono (by omega)) hr gl_law_bad__law_name T_law_name.m T_law_name.F.kp T_law_name.b .nil pass0 (qa_N (qe_var 1 vo_law_bad_deck) qa_nil) db_law_bad__law_name) (qe_call (G_law_spoilt.mono (by omega)) hr gl_law_bad__law_spoilt T_law_spoilt.m T_law_spoilt.F.kp T_law_spoilt.b .nil pass0 (qa_N (qe_var 6 vo_law_bad_r) (qa_N (qe_var 1 vo_law_bad_deck) qa_nil)) db_law_bad__law_spoilt)))) qss_nil)
    (qss_cons (qs_if (qt_cmp qop_eq (qe_var 4 vo_law_bad_way) qe_int (nomarkQ _)) (qss_cons (qs_set (i := 7) sc_law_bad.nd rfl lo_law_bad_name (qe_call (G_law_name.mono (by omega)) hr gl_law_bad__law_name T_law_name.m T_law_name.F.kp T_law_name.b .nil pass0 (qa_N (qe_var 1 vo_law_bad_deck) qa_nil) db_law_bad__law_name))
    (qss_cons (qs_dput (hu_of hr) (qe_var 2 vo_law_bad_given) (qe_var 7 vo_law_bad_name) qe_int)
    (qss_one (qs_dput (hu_of hr) (qe_var 3 vo_law_bad_recipes) (qe_var 7 vo_law_bad_name) (qe_tup (qa_C qe_str (qa_C qe_int qa_nil))))))) qss_nil)
    (qss_cons (qs_if (qt_cmp qop_eq (qe_var 4 vo_law_bad_way) qe_int (nomarkQ _)) (qss_one (qs_ret (qe_ix qix_list (qe_lst (qa_T (qe_tup (qa_N (qe_var 2 vo_law_bad_given) qa_nil)) (qa_T (qe_tup (qa_N (qe_var 2 vo_law_bad_given) (qa_N (qe_var 3 vo_law_bad_recipes) (qa_D qe_dnewK qa_nil)))) (qa_L (qe_lst (qa_N (qe_var 2 vo_law_bad_given) (qa_N (qe_var 3 vo_law_bad_recipes) qa_nil))) (qa_N (qe_var 2 vo_law_bad_given) (qa_C qe_non (qa_T (qe_tup qa_nil) (qa_C qe_int qa_nil)))))))) (qe_call (G_law_draw.mono (by omega)) hr gl_law_bad__law_draw T_law_draw.m T_law_draw.F.kp T_law_draw.b .nil pass0 (qa_N (qe_var 1 vo_law_bad_deck) (qa_C qe_int qa_nil)) db_law_bad__law_draw)))) qss_nil)
    (qss_cons (qs_if (qt_cmp qop_eq (qe_var 4 vo_law_bad_way) qe_int (nomarkQ _)) (qss_cons (qs_set (i := 8) sc_law_bad.nd rfl lo_law_bad_other (qe_ix qix_list (qe_lst (qa_L (qe_lst qa_nil) (qa_C qe_non (qa_C qe_str (qa_C qe_int (qa_T (qe_tup qa_nil) (qa_L (qe_lst (qa_T (qe_tup (qa_C qe_str (qa_C qe_int qa_nil))) qa_nil)) qa_nil))))))) (qe_call (G_law_draw.mono (by omega)) hr gl_law_bad__law_draw T_law_draw.m T_law_draw.F.kp T_law_draw.b .nil pass0 (qa_N (qe_var 1 vo_law_bad_deck) (qa_C qe_int qa_nil)) db_law_bad__law_draw)))
    (qss_one (qs_ret (qe_ix qix_list (qe_lst (qa_T (qe_tup (qa_N (qe_var 8 vo_law_bad_other) (qa_N (qe_var 3 vo_law_bad_recipes) qa_nil))) (qa_T (qe_tup (qa_N (qe_var 2 vo_law_bad_given) (qa_N (qe_var 8 vo_law_bad_other) qa_nil))) qa_nil))) (qe_call (G_law_draw.mono (by omega)) hr gl_law_bad__law_draw T_law_draw.m T_law_draw.F.kp T_law_draw.b .nil pass0 (qa_N (qe_var 1 vo_law_bad_deck) (qa_C qe_int qa_nil)) db_law_bad__law_draw))))) qss_nil)
    (qss_one (qs_ret (qe_tup (qa_N (qe_var 2 vo_law_bad_given) (qa_N (qe_var 3 vo_law_bad_recipes) qa_nil)))))))))))))))), ?_⟩
  walk_at "vs"
  intro g hg
  have S1 := same_new (.dK kg) hg
  have ng := D0.fresh hg
  have e1 : upd H g (.dK kg) g = some (.dK kg) := upd_same
  have eh1 := S1 _ _ eh
  have er1 := S1 _ _ er0
  have D1 := D0.same S1
  generalize upd H g (.dK kg) = H1 at *
  walk_at "vs"
  intro r hrn
  have S2 := same_new (.dK kr) hrn
  have nr := D1.fresh hrn
  have e2 := S2 _ _ e1
  have e3 : upd H1 r (.dK kr) r = some (.dK kr) := upd_same
  have ne : g ≠ r := ne_of_none e1 hrn
  have hr0 : H r = none := by
    cases z : H r with
    | none => rfl
    | some o => have := S1 _ _ z; rw [hrn] at this; cases this
  have D2 := D1.same S2
  have S12 := S1.trans S2
  generalize upd H1 r (.dK kr) = H2 at *
  clear e1 eh1 er1 D1 S1 S2 hrn eg0 er0
  have gh2 := goodH_tups (Same.tups S12) G.gh
  walk_at "vs"
  intro n1 H3 p1 p2 b3 D3
  have eg3 := b3 _ _ ng e2
  have er3 := b3 _ _ nr e3
  have gh3 := goodH_tups (D2.tups b3) gh2
  have b03 : But [d, c] H H3 := (But.of_same S12).trans b3
  clear b3 e2 e3 D2 S12 gh2
  walk_at "vs"
  intro T4 hT4
  have S4 := same_new (.tup [V.str "a"]) hT4
  have eT4 : upd H3 T4 (.tup [V.str "a"]) T4 = some (.tup [V.str "a"]) := upd_same
  have eg4 := S4 _ _ eg3
  have er4 := S4 _ _ er3
  have gh4 := goodH_tups (Same.tups S4) gh3
  have D4 := D3.same S4
  have b04 := b03.trans (But.of_same S4)
  generalize upd H3 T4 (.tup [V.str "a"]) = H4 at *
  clear eg3 er3 gh3 D3 b03 S4
  walk_at "vs"
  intro L5 hL5
  have S5 := same_new (.lst [V.str "", V.str "A", V.int 5, V.str "abcdefghi", V.non, V.ref T4, V.bl true, V.str "a b", V.str "x1"]) hL5
  have nL := D4.fresh hL5
  have eL5 : upd H4 L5 (.lst [V.str "", V.str "A", V.int 5, V.str "abcdefghi", V.non, V.ref T4, V.bl true, V.str "a b", V.str "x1"]) L5 = some (.lst [V.str "", V.str "A", V.int 5, V.str "abcdefghi", V.non, V.ref T4, V.bl true, V.str "a b", V.str "x1"]) := upd_same
  have eT5 := S5 _ _ eT4
  have eg5 := S5 _ _ eg4
  have er5 := S5 _ _ er4
  have gh5 := goodH_tups (Same.tups S5) gh4
  have D5 := D4.same S5
  have b05 := b04.trans (But.of_same S5)
  generalize upd H4 L5 (.lst [V.str "", V.str "A", V.int 5, V.str "abcdefghi", V.non, V.ref T4, V.bl true, V.str "a b", V.str "x1"]) = H5 at *
  clear eg4 er4 gh4 D4 b04 S5 eT4
  walk_at "vs"
  intro n2 H6 q1 q2 b6 D6
  have eL6 := b6 _ _ nL eL5
  have t6 := D5.tups b6
  have eT6 := t6 _ _ eT5
  have eg6 := b6 _ _ ng eg5
  have er6 := b6 _ _ nr er5
  have gh6 := goodH_tups t6 gh5
  have b06 := b05.trans b6
  clear eg5 er5 gh5 D5 b05 b6 t6 eT5 eL5
  obtain ⟨key, hkey, hmem⟩ : ∃ v, atI [V.str "", V.str "A", V.int 5, V.str "abcdefghi", V.non, V.ref T4, V.bl true, V.str "a b", V.str "x1"] n2 = some v ∧ v ∈ [V.str "", V.str "A", V.int 5, V.str "abcdefghi", V.non, V.ref T4, V.bl true, V.str "a b", V.str "x1"] := atI_in q1 q2
  obtain ⟨okk, kk⟩ := key_kinds (S := [g, r]) eT6 hmem
  walk_at "vs"
  clear hmem eL6 nL hL5 hT4 hkey
  have okg : OkE [g, r] H6 kg none := okE_N G.gn
  have okr : OkE [g, r] H6 kr none := okE_H gh6
  have xg := textN G.gn
  have xr := textH gh6
  have lg := G.lg
  have lr := G.lr
  have lgz : kg.length < sizeLine := small1000 (by omega)
  have lrz : kr.length < sizeLine := small1000 (by omega)
  have eS : ∀ x ∈ [g, r], H x = none := fun x hx => by
    rcases List.mem_cons.mp hx with rfl | z
    · exact hg
    · rw [List.mem_singleton.mp z]; exact hr0
  have fin : ∀ (Hf : Hp) (hf : Addr) (kg' kr' : List (Key × V)) (lg' lr' : Option (V × V)), But [d, c] H Hf → DeckAt Hf d c → Hf hf = some (.tup [.ref g, .ref r]) → DAt P w Hf g kg' lg' → DAt P w Hf r kr' lr' → OddL Hf lg' → OddL Hf lr' → TextK kg' → TextK kr' → OkE [g, r] Hf kg' lg' → OkE [g, r] Hf kr' lr' → Q (.ref hf) Hf :=
    fun Hf hf kg' kr' lg' lr' b D e1 e2 e3 e4 e5 e6 e7 e8 e9 => by
      obtain ⟨bb, hb⟩ := hth_pair (K := K) e1 ne e2 e3 e4 e5 e6 e7 e8 e9
      exact q _ _ bb Hf b D hb eS
  have cases8 : n1 = 7 ∨ n1 = 0 ∨ n1 = 1 ∨ n1 = 2 ∨ n1 = 3 ∨ n1 = 4 ∨ n1 = 5 ∨ n1 = 6 := by omega
  clear p1 p2
  rcases cases8 with rfl | rfl | rfl | rfl | rfl | rfl | rfl | rfl
  · refine itB_f (by decide) ?_
    walk_at "vs"
    intro hf hhf
    have S := same_new (.tup [V.ref g, V.ref r]) hhf
    exact fin _ hf kg kr none none (b06.trans (But.of_same S)) (D6.same S) upd_same (.inl ⟨S _ _ eg6, rfl⟩) (.inl ⟨S _ _ er6, rfl⟩) oddL_none oddL_none xg xr (okg.but (But.of_same S) (Same.tups S)) (okr.but (But.of_same S) (Same.tups S))
  · refine itB_t (by decide) ?_
    walk_at "vs"
    rcases kk with ⟨x, rfl⟩ | ov
    · refine .inl ⟨_, .inl ⟨kg, .inr x, eg6, rfl, lgz, rfl⟩, ?_⟩
      have er7 : upd H6 g (.dK (putK kg (.inr x) (.int 7))) r = some (.dK kr) := (upd_ne (Ne.symm ne)).trans er6
      have eg7 : upd H6 g (.dK (putK kg (.inr x) (.int 7))) g = some (.dK (putK kg (.inr x) (.int 7))) := upd_same
      have D7 := D6.upd (.dK (putK kg (.inr x) (.int 7))) ng
      have b7 : But [g, r] H6 (upd H6 g (.dK (putK kg (.inr x) (.int 7)))) := But.set _ (by simp)
      have t7 : Tups H6 (upd H6 g (.dK (putK kg (.inr x) (.int 7)))) := fun y xs z => (upd_ne (fun w => by rw [w, eg6] at z; cases z)).trans z
      have b07 := but_upd (.dK (putK kg (.inr x) (.int 7))) b06 hg
      have okg7 := okE_put (okg.but b7 t7) (okk.but b7 t7) (Ok.int 7)
      have okr7 := okr.but b7 t7
      generalize upd H6 g (.dK (putK kg (.inr x) (.int 7))) = H7 at *
      walk_at "vs"
      intro hf hhf
      have S := same_new (.tup [V.ref g, V.ref r]) hhf
      exact fin _ hf _ kr none none (b07.trans (But.of_same S)) (D7.same S) upd_same (.inl ⟨S _ _ eg7, rfl⟩) (.inl ⟨S _ _ er7, rfl⟩) oddL_none oddL_none (text_put xg x _) xr (okg7.but (But.of_same S) (Same.tups S)) (okr7.but (But.of_same S) (Same.tups S))
    · refine .inr ⟨kg, eg6, xg, ov, fun o f => ?_⟩
      have er7 : upd H6 g (fixO g o) r = some (.dK kr) := (upd_ne (Ne.symm ne)).trans er6
      have eg7 : upd H6 g (fixO g o) g = some (fixO g o) := upd_same
      have D7 := D6.upd (fixO g o) ng
      have b7 : But [g, r] H6 (upd H6 g (fixO g o)) := But.set _ (by simp)
      have t7 : Tups H6 (upd H6 g (fixO g o)) := fun y xs z => (upd_ne (fun w => by rw [w, eg6] at z; cases z)).trans z
      have b07 := but_upd (fixO g o) b06 hg
      have okg7 := okE_odd (okg.but b7 t7) (okk.but b7 t7) (Ok.int 7)
      have okr7 := okr.but b7 t7
      have ol7 := oddL_tups t7 (oddL_some (v := .int 7) ov)
      generalize upd H6 g (fixO g o) = H7 at *
      walk_at "vs"
      intro hf hhf
      have S := same_new (.tup [V.ref g, V.ref r]) hhf
      exact fin _ hf kg kr _ none (b07.trans (But.of_same S)) (D7.same S) upd_same (.inr ⟨o, S _ _ eg7, f⟩) (.inl ⟨S _ _ er7, rfl⟩) (oddL_tups (Same.tups S) ol7) oddL_none xg xr (okg7.but (But.of_same S) (Same.tups S)) (okr7.but (But.of_same S) (Same.tups S))
  · refine itB_f (by decide) ?_
    walk_at "vs"
    intro N7 hN7
    have S7 := same_new (.tup [V.str "number", V.int 7]) hN7
    have eN7 : upd H6 N7 (.tup [V.str "number", V.int 7]) N7 = some (.tup [V.str "number", V.int 7]) := upd_same
    have okn : Ok [g, r] (upd H6 N7 (.tup [V.str "number", V.int 7])) (.ref N7) := Ok.tup eN7 (Nat.le_of_ble_eq_true rfl) (All.cons (Ok.str (by decide +kernel)) (All.cons (Ok.int 7) All.nil))
    replace eg6 := S7 _ _ eg6
    replace er6 := S7 _ _ er6
    replace okg := okg.but (But.of_same S7) (Same.tups S7)
    replace okr := okr.but (But.of_same S7) (Same.tups S7)
    replace okk := okk.same S7
    replace kk := kk.imp id fun z => (oddL_tups (l := some (key, key)) (Same.tups S7) (oddL_some z)) _ rfl
    replace D6 := D6.same S7
    replace b06 := b06.trans (But.of_same S7)
    clear gh6 eT6
    generalize upd H6 N7 (.tup [V.str "number", V.int 7]) = H6' at *
    clear S7 hN7
    walk_at "vs"
    rcases kk with ⟨x, rfl⟩ | ov
    · refine .inl ⟨_, .inl ⟨kr, .inr x, er6, rfl, lrz, rfl⟩, ?_⟩
      have eg7 : upd H6' r (.dK (putK kr (.inr x) (.ref N7))) g = some (.dK kg) := (upd_ne ne).trans eg6
      have er7 : upd H6' r (.dK (putK kr (.inr x) (.ref N7))) r = some (.dK (putK kr (.inr x) (.ref N7))) := upd_same
      have D7 := D6.upd (.dK (putK kr (.inr x) (.ref N7))) nr
      have b7 : But [g, r] H6' (upd H6' r (.dK (putK kr (.inr x) (.ref N7)))) := But.set _ (by simp)
      have t7 : Tups H6' (upd H6' r (.dK (putK kr (.inr x) (.ref N7)))) := fun y xs z => (upd_ne (fun w => by rw [w, er6] at z; cases z)).trans z
      have b07 := but_upd (.dK (putK kr (.inr x) (.ref N7))) b06 hr0
      have okr7 := okE_put (okr.but b7 t7) (okk.but b7 t7) (okn.but b7 t7)
      have okg7 := okg.but b7 t7
      generalize upd H6' r (.dK (putK kr (.inr x) (.ref N7))) = H7 at *
      walk_at "vs"
      intro hf hhf
      have S := same_new (.tup [V.ref g, V.ref r]) hhf
      exact fin _ hf kg _ none none (b07.trans (But.of_same S)) (D7.same S) upd_same (.inl ⟨S _ _ eg7, rfl⟩) (.inl ⟨S _ _ er7, rfl⟩) oddL_none oddL_none xg (text_put xr x _) (okg7.but (But.of_same S) (Same.tups S)) (okr7.but (But.of_same S) (Same.tups S))
    · refine .inr ⟨kr, er6, xr, ov, fun o f => ?_⟩
      have eg7 : upd H6' r (fixO r o) g = some (.dK kg) := (upd_ne ne).trans eg6
      have er7 : upd H6' r (fixO r o) r = some (fixO r o) := upd_same
      have D7 := D6.upd (fixO r o) nr
      have b7 : But [g, r] H6' (upd H6' r (fixO r o)) := But.set _ (by simp)
      have t7 : Tups H6' (upd H6' r (fixO r o)) := fun y xs z => (upd_ne (fun w => by rw [w, er6] at z; cases z)).trans z
      have b07 := but_upd (fixO r o) b06 hr0
      have okr7 := okE_odd (okr.but b7 t7) (okk.but b7 t7) (okn.but b7 t7)
      have okg7 := okg.but b7 t7
      have ol7 := oddL_tups t7 (oddL_some (v := .ref N7) ov)
      generalize upd H6' r (fixO r o) = H7 at *
      walk_at "vs"
      intro hf hhf
      have S := same_new (.tup [V.ref g, V.ref r]) hhf
      exact fin _ hf kg kr none _ (b07.trans (But.of_same S)) (D7.same S) upd_same (.inl ⟨S _ _ eg7, rfl⟩) (.inr ⟨o, S _ _ er7, f⟩) oddL_none (oddL_tups (Same.tups S) ol7) xg xr (okg7.but (But.of_same S) (Same.tups S)) (okr7.but (But.of_same S) (Same.tups S))
  · refine itB_f (by decide) ?_
    have B6 : BS H d c g r kg kr H6 := ⟨b06, D6, eg6, er6, gh6⟩
    clear b06 D6 eg6 er6 gh6 eT6 okk kk okg okr
    walk_at "vs"
    intro p1 hp1
    have U := same_new (.tup []) hp1
    have e1 : upd H6 p1 (.tup []) p1 = some (.tup []) := upd_same
    have o1 : Ok [d, c, g, r] (upd H6 p1 (.tup [])) (.ref p1) := Ok.tup e1 (Nat.le_of_ble_eq_true rfl) All.nil
    have B7 := B6.same U
    generalize upd H6 p1 (.tup []) = H7 at *
    clear U hp1 e1 B6
    walk_at "vs"
    intro p2 hp2
    have U := same_new (.lst []) hp2
    have e2 : upd H7 p2 (.lst []) p2 = some (.lst []) := upd_same
    have o2 : Ok [d, c, g, r] (upd H7 p2 (.lst [])) (.ref p2) := Ok.lst e2 (B7.occ.fresh hp2)
    replace o1 := o1.same U
    have B8 := B7.same U
    generalize upd H7 p2 (.lst []) = H8 at *
    clear U hp2 e2 B7
    walk_at "vs"
    intro p3 hp3
    have U := same_new (.tup [V.str "number", V.int 1]) hp3
    have e3 : upd H8 p3 (.tup [V.str "number", V.int 1]) p3 = some (.tup [V.str "number", V.int 1]) := upd_same
    have o3 : Ok [d, c, g, r] (upd H8 p3 (.tup [V.str "number", V.int 1])) (.ref p3) := Ok.tup e3 (Nat.le_of_ble_eq_true rfl) (All.cons (Ok.str (by decide +kernel)) (All.cons (Ok.int 1) All.nil))
    replace o1 := o1.same U
    replace o2 := o2.same U
    have B9 := B8.same U
    generalize upd H8 p3 (.tup [V.str "number", V.int 1]) = H9 at *
    clear U hp3 e3 B8
    walk_at "vs"
    intro p4 hp4
    have aL : All [d, c, g, r] H9 [V.bl true, V.non, V.str "1", V.ref p1, V.ref p2, V.ref p3] := All.cons (Ok.bl true) (All.cons Ok.non (All.cons (Ok.str (by decide +kernel)) (All.cons o1 (All.cons o2 (All.cons o3 All.nil)))))
    have lL : [V.bl true, V.non, V.str "1", V.ref p1, V.ref p2, V.ref p3].length = 6 := rfl
    generalize [V.bl true, V.non, V.str "1", V.ref p1, V.ref p2, V.ref p3] = L at *
    have U := same_new (.lst L) hp4
    have e4 : upd H9 p4 (.lst L) p4 = some (.lst L) := upd_same
    have n4 := B9.D.fresh hp4
    replace aL := aL.same U
    have B10 := B9.same U
    generalize upd H9 p4 (.lst L) = H10 at *
    clear U hp4 o1 o2 o3 B9
    have D10 := B10.D
    walk_at "vs"
    intro n H11 w1 w2 b11 D11
    have e11 := b11 _ _ n4 e4
    obtain ⟨v, hv, hmem⟩ := atI_in (L := L) w1 (by rw [lL]; exact w2)
    have ov := (aL v hmem).but (b11.mono sub_dc) (D10.tups b11)
    have B11 := B10.but ng nr b11 D11
    clear aL hmem D10 B10 b11 e4
    walk_at "vs"
    intro x H12 gx b12 D12
    have ov := ov.but (b12.mono sub_dc) (D11.tups b12)
    have B12 := B11.but ng nr b12 D12
    have eg12 := B12.eg
    have hput : DPut H12 g (.str x) v (upd H12 g (.dK (putK kg (.inr x) v))) := .inl ⟨kg, .inr x, eg12, rfl, lgz, rfl⟩
    have b7 : But [g, r] H12 (upd H12 g (.dK (putK kg (.inr x) v))) := But.set _ (by simp)
    have t7 : Tups H12 (upd H12 g (.dK (putK kg (.inr x) v))) := fun y xs z => (upd_ne (fun w => by rw [w, eg12] at z; cases z)).trans z
    have okg7 := (okE_put (okE_N G.gn) ⟨_, .str x, .name gx⟩ (ov.sub sub_gr)).but b7 t7
    have okr7 := (okE_H B12.gh).but b7 t7
    have er7 : upd H12 g (.dK (putK kg (.inr x) v)) r = some (.dK kr) := (upd_ne (Ne.symm ne)).trans B12.er
    have eg7 : upd H12 g (.dK (putK kg (.inr x) v)) g = some (.dK (putK kg (.inr x) v)) := upd_same
    have D7 := B12.D.upd (.dK (putK kg (.inr x) v)) ng
    have b07 := but_upd (.dK (putK kg (.inr x) v)) B12.b hg
    clear b12 B11 D11 e11 hv B12 D12 eg12
    walk_at "vs"
    intro hf hhf
    have S := same_new (.tup [V.ref g, V.ref r]) hhf
    exact fin _ hf _ kr none none (b07.trans (But.of_same S)) (D7.same S) upd_same (.inl ⟨S _ _ eg7, rfl⟩) (.inl ⟨S _ _ er7, rfl⟩) oddL_none oddL_none (text_put xg x _) xr (okg7.but (But.of_same S) (Same.tups S)) (okr7.but (But.of_same S) (Same.tups S))
  · refine itB_f (by decide) ?_
    have B6 : BS H d c g r kg kr H6 := ⟨b06, D6, eg6, er6, gh6⟩
    clear b06 eg6 er6 gh6 eT6 okk kk okg okr
    walk_at "vs"
    intro l hl
    have D9 := D6.same (same_new (.lst [V.int 5]) hl)
    have hfr := D6.fresh hl
    have ld : l ≠ d := fun z => hfr (by simp [z])
    have lc : l ≠ c := fun z => hfr (by simp [z])
    have hl9 : upd H6 l (.lst [V.int 5]) l = some (.lst [V.int 5]) := upd_same
    have w3 : (1 : Int) ≤ 3 := by decide
    have w4 : (3 : Int) ≤ ((6 : Nat) : Int) := by decide
    walk_at "vs"
    intro a rr k' H10 g10 d10 z10 b10 D10 hl10 R10
    have B10 := B6.but ng nr (but_drop hl b10) D10
    have F10 := B10.occ
    have hdS := sub_dc (d := d) (c := c) (g := g) (r := r)
    clear b10 hl10 D9 hl9 hl B6 D6 z10 hfr ld lc
    walk_at "vs"
    intro v H11 b11 D11 ov
    have B11 := B10.but ng nr b11 D11
    clear F10 R10 B10 b11 D10
    walk_at "vs"
    intro x H12 gx b12 D12
    have ov := ov.but (b12.mono sub_dc) (D11.tups b12)
    have B12 := B11.but ng nr b12 D12
    have er12 := B12.er
    have hput : DPut H12 r (.str x) v (upd H12 r (.dK (putK kr (.inr x) v))) := .inl ⟨kr, .inr x, er12, rfl, lrz, rfl⟩
    have b7 : But [g, r] H12 (upd H12 r (.dK (putK kr (.inr x) v))) := But.set _ (by simp)
    have t7 : Tups H12 (upd H12 r (.dK (putK kr (.inr x) v))) := fun y xs z => (upd_ne (fun w => by rw [w, er12] at z; cases z)).trans z
    have okr7 := (okE_put (okE_H B12.gh) ⟨_, .str x, .name gx⟩ (ov.sub sub_gr)).but b7 t7
    have okg7 := (okE_N (S := [g, r]) (H := H12) G.gn).but b7 t7
    have eg7 : upd H12 r (.dK (putK kr (.inr x) v)) g = some (.dK kg) := (upd_ne ne).trans B12.eg
    have er7 : upd H12 r (.dK (putK kr (.inr x) v)) r = some (.dK (putK kr (.inr x) v)) := upd_same
    have D7 := B12.D.upd (.dK (putK kr (.inr x) v)) nr
    have b07 := but_upd (.dK (putK kr (.inr x) v)) B12.b hr0
    clear b12 B11 D11 B12 D12 er12
    walk_at "vs"
    intro hf hhf
    have S := same_new (.tup [V.ref g, V.ref r]) hhf
    exact fin _ hf kg _ none none (b07.trans (But.of_same S)) (D7.same S) upd_same (.inl ⟨S _ _ eg7, rfl⟩) (.inl ⟨S _ _ er7, rfl⟩) oddL_none oddL_none xg (text_put xr x _) (okg7.but (But.of_same S) (Same.tups S)) (okr7.but (But.of_same S) (Same.tups S))
  · refine itB_f (by decide) ?_
    have B6 : BS H d c g r kg kr H6 := ⟨b06, D6, eg6, er6, gh6⟩
    clear b06 eg6 er6 gh6 eT6 okk kk okg okr
    walk_at "vs"
    intro x H7 gx b7 D7
    have B7 := B6.but ng nr b7 D7
    have eg7 := B7.eg
    have hput : DPut H7 g (.str x) (.int 1) (upd H7 g (.dK (putK kg (.inr x) (.int 1)))) := .inl ⟨kg, .inr x, eg7, rfl, lgz, rfl⟩
    have c8 : But [g, r] H7 (upd H7 g (.dK (putK kg (.inr x) (.int 1)))) := But.set _ (by simp)
    have t8 : Tups H7 (upd H7 g (.dK (putK kg (.inr x) (.int 1)))) := fun y xs z => (upd_ne (fun w => by rw [w, eg7] at z; cases z)).trans z
    have okg8 := (okE_put (S := [g, r]) (H := H7) (okE_N G.gn) (x := x) ⟨_, .str x, .name gx⟩ (Ok.int 1)).but c8 t8
    have gh8 := goodH_tups t8 B7.gh
    have er8 : upd H7 g (.dK (putK kg (.inr x) (.int 1))) r = some (.dK kr) := (upd_ne (Ne.symm ne)).trans B7.er
    have eg8 : upd H7 g (.dK (putK kg (.inr x) (.int 1))) g = some (.dK (putK kg (.inr x) (.int 1))) := upd_same
    have D8 := B7.D.upd (.dK (putK kg (.inr x) (.int 1))) ng
    have b08 := but_upd (.dK (putK kg (.inr x) (.int 1))) B7.b hg
    clear B6 B7 b7 D7 D6 eg7
    walk_at "vs"
    generalize upd H7 g (.dK (putK kg (.inr x) (.int 1))) = H8 at *
    intro N9 hN9
    have U := same_new (.tup [V.str "number", V.int 1]) hN9
    have eN9 : upd H8 N9 (.tup [V.str "number", V.int 1]) N9 = some (.tup [V.str "number", V.int 1]) := upd_same
    have on9 : Ok [g, r] (upd H8 N9 (.tup [V.str "number", V.int 1])) (.ref N9) := Ok.tup eN9 (Nat.le_of_ble_eq_true rfl) (All.cons (Ok.str (by decide +kernel)) (All.cons (Ok.int 1) All.nil))
    have eg9 := U _ _ eg8
    have er9 := U _ _ er8
    have okg9 := okg8.but (But.of_same U) (Same.tups U)
    have gh9 := goodH_tups (Same.tups U) gh8
    have D9 := D8.same U
    have b09 := b08.trans (But.of_same U)
    generalize upd H8 N9 (.tup [V.str "number", V.int 1]) = H9 at *
    clear U hN9 eg8 er8 okg8 gh8 D8 b08 eN9 hput c8 t8
    have hput : DPut H9 r (.str x) (.ref N9) (upd H9 r (.dK (putK kr (.inr x) (.ref N9)))) := .inl ⟨kr, .inr x, er9, rfl, lrz, rfl⟩
    have c10 : But [g, r] H9 (upd H9 r (.dK (putK kr (.inr x) (.ref N9)))) := But.set _ (by simp)
    have t10 : Tups H9 (upd H9 r (.dK (putK kr (.inr x) (.ref N9)))) := fun y xs z => (upd_ne (fun w => by rw [w, er9] at z; cases z)).trans z
    have okr10 := (okE_put (okE_H gh9) (x := x) ⟨_, .str x, .name gx⟩ on9).but c10 t10
    have okg10 := okg9.but c10 t10
    have eg10 : upd H9 r (.dK (putK kr (.inr x) (.ref N9))) g = some (.dK (putK kg (.inr x) (.int 1))) := (upd_ne ne).trans eg9
    have er10 : upd H9 r (.dK (putK kr (.inr x) (.ref N9))) r = some (.dK (putK kr (.inr x) (.ref N9))) := upd_same
    have D10 := D9.upd (.dK (putK kr (.inr x) (.ref N9))) nr
    have b10 := but_upd (.dK (putK kr (.inr x) (.ref N9))) b09 hr0
    clear eg9 er9 gh9 D9 b09 okg9
    walk_at "vs"
    intro hf hhf
    have S := same_new (.tup [V.ref g, V.ref r]) hhf
    exact fin _ hf _ _ none none (b10.trans (But.of_same S)) (D10.same S) upd_same (.inl ⟨S _ _ eg10, rfl⟩) (.inl ⟨S _ _ er10, rfl⟩) oddL_none oddL_none (text_put xg x _) (text_put xr x _) (okg10.but (But.of_same S) (Same.tups S)) (okr10.but (But.of_same S) (Same.tups S))
  · refine itB_f (by decide) ?_
    have B6 : BS H d c g r kg kr H6 := ⟨b06, D6, eg6, er6, gh6⟩
    have og : Ok [d, c] H6 (.ref g) := Ok.dic eg6 ng
    have or' : Ok [d, c] H6 (.ref r) := Ok.dic er6 nr
    have tg : Tg [d, c] H6 (.ref g) (.oth "dict") := .dic eg6 ng
    clear b06 eg6 er6 gh6 eT6 okk kk okg okr
    walk_at "vs"
    intro p1 hp1
    have U := same_new (.tup [V.ref g]) hp1
    have e1 : upd H6 p1 (.tup [V.ref g]) p1 = some (.tup [V.ref g]) := upd_same
    replace og := og.same U
    replace or' := or'.same U
    replace tg := tg.same U
    have o1 : NP [d, c] (upd H6 p1 (.tup [V.ref g])) (.ref p1) := NP.tup e1 (Nat.le_of_ble_eq_true rfl) (by simp) (All.cons og All.nil)
    have B7 := B6.same U
    generalize upd H6 p1 (.tup [V.ref g]) = H7 at *
    clear U hp1 e1 B6 D6
    walk_at "vs"
    intro p2 hp2
    have U := same_new (.dK []) hp2
    have e2 : upd H7 p2 (.dK []) p2 = some (.dK []) := upd_same
    have o2 : Ok [d, c] (upd H7 p2 (.dK [])) (.ref p2) := Ok.dic e2 (B7.D.fresh hp2)
    replace og := og.same U
    replace or' := or'.same U
    replace tg := tg.same U
    replace o1 := o1.same U
    have B8 := B7.same U
    generalize upd H7 p2 (.dK []) = H8 at *
    clear U hp2 e2 B7
    walk_at "vs"
    intro p3 hp3
    have U := same_new (.tup [V.ref g, V.ref r, V.ref p2]) hp3
    have e3 : upd H8 p3 (.tup [V.ref g, V.ref r, V.ref p2]) p3 = some (.tup [V.ref g, V.ref r, V.ref p2]) := upd_same
    replace og := og.same U
    replace or' := or'.same U
    replace tg := tg.same U
    replace o1 := o1.same U
    replace o2 := o2.same U
    have o3 : NP [d, c] (upd H8 p3 (.tup [V.ref g, V.ref r, V.ref p2])) (.ref p3) := NP.tup e3 (Nat.le_of_ble_eq_true rfl) (by simp) (All.cons og (All.cons or' (All.cons o2 All.nil)))
    have B9 := B8.same U
    generalize upd H8 p3 (.tup [V.ref g, V.ref r, V.ref p2]) = H9 at *
    clear U hp3 e3 B8 o2
    walk_at "vs"
    intro p4 hp4
    have U := same_new (.lst [V.ref g, V.ref r]) hp4
    have e4 : upd H9 p4 (.lst [V.ref g, V.ref r]) p4 = some (.lst [V.ref g, V.ref r]) := upd_same
    have o4 : NP [d, c] (upd H9 p4 (.lst [V.ref g, V.ref r])) (.ref p4) := NP.oth (.lst e4 (B9.D.fresh hp4))
    replace tg := tg.same U
    replace o1 := o1.same U
    replace o3 := o3.same U
    have B10 := B9.same U
    generalize upd H9 p4 (.lst [V.ref g, V.ref r]) = H10 at *
    clear U hp4 e4 B9 og or'
    walk_at "vs"
    intro p5 hp5
    have U := same_new (.tup []) hp5
    have e5 : upd H10 p5 (.tup []) p5 = some (.tup []) := upd_same
    have o5 : NP [d, c] (upd H10 p5 (.tup [])) (.ref p5) := NP.tup e5 (Nat.le_of_ble_eq_true rfl) (by simp) All.nil
    replace tg := tg.same U
    replace o1 := o1.same U
    replace o3 := o3.same U
    replace o4 := o4.same U
    have B11 := B10.same U
    generalize upd H10 p5 (.tup []) = H11 at *
    clear U hp5 e5 B10
    walk_at "vs"
    intro p6 hp6
    have aL : ∀ v ∈ [V.ref p1, V.ref p3, V.ref p4, V.ref g, V.non, V.ref p5, V.int 5], NP [d, c] H11 v := fun v hv => by
      simp only [List.mem_cons, List.not_mem_nil, or_false] at hv
      rcases hv with rfl | rfl | rfl | rfl | rfl | rfl | rfl
      · exact o1
      · exact o3
      · exact o4
      · exact NP.oth tg
      · exact NP.non
      · exact o5
      · exact NP.int 5
    have lL : [V.ref p1, V.ref p3, V.ref p4, V.ref g, V.non, V.ref p5, V.int 5].length = 7 := rfl
    generalize [V.ref p1, V.ref p3, V.ref p4, V.ref g, V.non, V.ref p5, V.int 5] = L at *
    have U := same_new (.lst L) hp6
    have e6 : upd H11 p6 (.lst L) p6 = some (.lst L) := upd_same
    have n6 := B11.D.fresh hp6
    replace aL := fun v hv => (aL v hv).same U
    have B12 := B11.same U
    generalize upd H11 p6 (.lst L) = H12 at *
    clear U hp6 o1 o3 o4 o5 tg B11
    have D12 := B12.D
    walk_at "vs"
    intro n H13 w1 w2 b13 D13
    have e13 := b13 _ _ n6 e6
    obtain ⟨v, hv, hmem⟩ := atI_in (L := L) w1 (by rw [lL]; exact w2)
    obtain ⟨t, a1, a2, a3⟩ := (aL v hmem).but b13 (D12.tups b13)
    walk_at "vs"
    exact q v [] false H13 (B12.b.trans b13) D13 (.inl ⟨t, rfl, a1.isTh, a2, a3, rfl⟩) (fun x hx => by simp at hx)
  · refine itB_f (by decide) ?_
    have B6 : BS H d c g r kg kr H6 := ⟨b06, D6, eg6, er6, gh6⟩
    clear b06 eg6 er6 gh6 eT6 okk kk okg okr
    walk_at "vs"
    intro p1 hp1
    have U := same_new (.lst []) hp1
    have e1 : upd H6 p1 (.lst []) p1 = some (.lst []) := upd_same
    have o1 : ND [d, c] (upd H6 p1 (.lst [])) (.ref p1) := ND.lst e1 (B6.D.fresh hp1)
    have B7 := B6.same U
    generalize upd H6 p1 (.lst []) = H7 at *
    clear U hp1 e1 B6 D6
    walk_at "vs"
    intro p2 hp2
    have U := same_new (.tup []) hp2
    have e2 : upd H7 p2 (.tup []) p2 = some (.tup []) := upd_same
    have o2 : ND [d, c] (upd H7 p2 (.tup [])) (.ref p2) := ND.tup e2 (Nat.le_of_ble_eq_true rfl) All.nil
    replace o1 := o1.same U
    have B8 := B7.same U
    generalize upd H7 p2 (.tup []) = H8 at *
    clear U hp2 e2 B7
    walk_at "vs"
    intro p3 hp3
    have U := same_new (.tup [V.str "a", V.int 1]) hp3
    replace o1 := o1.same U
    replace o2 := o2.same U
    have B9 := B8.same U
    generalize upd H8 p3 (.tup [V.str "a", V.int 1]) = H9 at *
    clear U hp3 B8
    walk_at "vs"
    intro p4 hp4
    have U := same_new (.lst [V.ref p3]) hp4
    have e4 : upd H9 p4 (.lst [V.ref p3]) p4 = some (.lst [V.ref p3]) := upd_same
    have o4 : ND [d, c] (upd H9 p4 (.lst [V.ref p3])) (.ref p4) := ND.lst e4 (B9.D.fresh hp4)
    replace o1 := o1.same U
    replace o2 := o2.same U
    have B10 := B9.same U
    generalize upd H9 p4 (.lst [V.ref p3]) = H10 at *
    clear U hp4 e4 B9
    walk_at "vs"
    intro p5 hp5
    have aL : ∀ v ∈ [V.ref p1, V.non, V.str "", V.int 0, V.ref p2, V.ref p4], ND [d, c] H10 v := fun v hv => by
      simp only [List.mem_cons, List.not_mem_nil, or_false] at hv
      rcases hv with rfl | rfl | rfl | rfl | rfl | rfl
      · exact o1
      · exact ND.non
      · exact ND.str (by decide +kernel)
      · exact ND.int 0
      · exact o2
      · exact o4
    have lL : [V.ref p1, V.non, V.str "", V.int 0, V.ref p2, V.ref p4].length = 6 := rfl
    generalize [V.ref p1, V.non, V.str "", V.int 0, V.ref p2, V.ref p4] = L at *
    have U := same_new (.lst L) hp5
    have e5 : upd H10 p5 (.lst L) p5 = some (.lst L) := upd_same
    have n5 := B10.D.fresh hp5
    replace aL := fun v hv => (aL v hv).same U
    have B11 := B10.same U
    generalize upd H10 p5 (.lst L) = H11 at *
    clear U hp5 o1 o2 o4 B10
    have D11 := B11.D
    walk_at "vs"
    intro n H12 w1 w2 b12 D12
    have e12 := b12 _ _ n5 e5
    obtain ⟨v, hv, hmem⟩ := atI_in (L := L) w1 (by rw [lL]; exact w2)
    have nv := (aL v hmem).but b12 (D11.tups b12)
    have B12 := B11.but ng nr b12 D12
    clear aL hmem D11 B11 b12 e5
    walk_at "vs"
    intro p6 hp6
    have U := same_new (.tup [v, V.ref r]) hp6
    have e6 : upd H12 p6 (.tup [v, V.ref r]) p6 = some (.tup [v, V.ref r]) := upd_same
    replace nv := nv.same U
    have B13 := B12.same U
    generalize upd H12 p6 (.tup [v, V.ref r]) = H13 at *
    have o6 : NP [d, c] H13 (.ref p6) := NP.two e6 nv.ok (Ok.dic B13.er nr) (.inl nv)
    clear U hp6 e6 B12 D12 e12 hv
    walk_at "vs"
    intro p7 hp7
    have U := same_new (.tup [V.ref g, v]) hp7
    have e7 : upd H13 p7 (.tup [V.ref g, v]) p7 = some (.tup [V.ref g, v]) := upd_same
    replace nv := nv.same U
    replace o6 := o6.same U
    have B14 := B13.same U
    generalize upd H13 p7 (.tup [V.ref g, v]) = H14 at *
    have o7 : NP [d, c] H14 (.ref p7) := NP.two e7 (Ok.dic B14.eg ng) nv.ok (.inr nv)
    clear U hp7 e7 B13
    walk_at "vs"
    intro p8 hp8
    have U := same_new (.lst [V.ref p6, V.ref p7]) hp8
    have e8 : upd H14 p8 (.lst [V.ref p6, V.ref p7]) p8 = some (.lst [V.ref p6, V.ref p7]) := upd_same
    have n8 := B14.D.fresh hp8
    replace o6 := o6.same U
    replace o7 := o7.same U
    have B15 := B14.same U
    generalize upd H14 p8 (.lst [V.ref p6, V.ref p7]) = H15 at *
    clear U hp8 B14
    have D15 := B15.D
    walk_at "vs"
    intro m H16 y1 y2 b16 D16
    have e16 := b16 _ _ n8 e8
    obtain ⟨u, hu, hmem⟩ := atI_in (L := [V.ref p6, V.ref p7]) y1 y2
    have nu : NP [d, c] H15 u := by
      simp only [List.mem_cons, List.not_mem_nil, or_false] at hmem
      rcases hmem with rfl | rfl
      · exact o6
      · exact o7
    obtain ⟨t, a1, a2, a3⟩ := nu.but b16 (D15.tups b16)
    walk_at "vs"
    exact q u [] false H16 (B15.b.trans b16) D16 (.inl ⟨t, rfl, a1.isTh, a2, a3, rfl⟩) (fun x hx => by simp at hx)
end

section
variable {P : Program} {w : World} {K : PySem.W.Frag} {mg : Str → Option Value} {base : Heap}
noncomputable abbrev s_law : Stmt := top 31
theorem sc_law : FnScope ["script", "deck", "k", "house", "handed", "turn", "thing", "found"] ["script"] (defScope s_law) := ⟨rfl, rfl, rfl, by decide +kernel, rfl, by decide +kernel, by decide +kernel⟩
theorem lo_law_deck : Loc (defScope s_law) "deck" := by decide +kernel
theorem gl_law__law_deck : (defScope s_law).names.lookup ("_law_deck" : Str) = some NameKind.globalImplicit := by decide +kernel
theorem vo_law_script : VarOk (defScope s_law) "script" := by decide +kernel
theorem db_law__law_deck : (("_law_deck" : Str) == ("__debug__" : Str)) = false := by decide +kernel
theorem gl_law_range : (defScope s_law).names.lookup ("range" : Str) = some NameKind.globalImplicit := by decide +kernel
theorem lo_law_k : Loc (defScope s_law) "k" := by decide +kernel
theorem lo_law_house : Loc (defScope s_law) "house" := by decide +kernel
theorem gl_law__law_house : (defScope s_law).names.lookup ("_law_house" : Str) = some NameKind.globalImplicit := by decide +kernel
theorem vo_law_deck : VarOk (defScope s_law) "deck" := by decide +kernel
theorem db_law__law_house : (("_law_house" : Str) == ("__debug__" : Str)) = false := by decide +kernel
theorem lo_law_handed : Loc (defScope s_law) "handed" := by decide +kernel
theorem gl_law__law_copy : (defScope s_law).names.lookup ("_law_copy" : Str) = some NameKind.globalImplicit := by decide +kernel
theorem vo_law_house : VarOk (defScope s_law) "house" := by decide +kernel
theorem db_law__law_copy : (("_law_copy" : Str) == ("__debug__" : Str)) = false := by decide +kernel
theorem vo_law_handed : VarOk (defScope s_law) "handed" := by decide +kernel
theorem gl_law_is_house : (defScope s_law).names.lookup ("is_house" : Str) = some NameKind.globalImplicit := by decide +kernel
theorem db_law_is_house : (("is_house" : Str) == ("__debug__" : Str)) = false := by decide +kernel
theorem lo_law_turn : Loc (defScope s_law) "turn" := by decide +kernel
theorem lo_law_thing : Loc (defScope s_law) "thing" := by decide +kernel
theorem gl_law__law_bad : (defScope s_law).names.lookup ("_law_bad" : Str) = some NameKind.globalImplicit := by decide +kernel
theorem db_law__law_bad : (("_law_bad" : Str) == ("__debug__" : Str)) = false := by decide +kernel
theorem lo_law_found : Loc (defScope s_law) "found" := by decide +kernel
theorem vo_law_thing : VarOk (defScope s_law) "thing" := by decide +kernel
theorem vo_law_found : VarOk (defScope s_law) "found" := by decide +kernel
theorem gl_law__law_is_house : (defScope s_law).names.lookup ("_law_is_house" : Str) = some NameKind.globalImplicit := by decide +kernel
theorem db_law__law_is_house : (("_law_is_house" : Str) == ("__debug__" : Str)) = false := by decide +kernel
theorem gl_law_isinstance : (defScope s_law).names.lookup ("isinstance" : Str) = some NameKind.globalImplicit := by decide +kernel
theorem gl_law_bool : (defScope s_law).names.lookup ("bool" : Str) = some NameKind.globalImplicit := by decide +kernel
theorem nn_law_bool : ("bool" : Str) ≠ "__name__" := by decide +kernel
theorem db_law_bool : (("bool" : Str) == ("__debug__" : Str)) = false := by decide +kernel
theorem nn_law_isinstance : ("isinstance" : Str) ≠ "__name__" := by decide +kernel
theorem db_law_isinstance : (("isinstance" : Str) == ("__debug__" : Str)) = false := by decide +kernel
theorem ok_law {f g1 g2 g3 g4 g5 g6 : Addr} {fd gd1 gd2 gd3 gd4 gd5 gd6 : FuncData} (T_law : FnT K mg "law" s_law ["script"] f fd)
    (T_law_deck : FnT K mg "_law_deck" s_law_deck ["script"] g1 gd1) (G_law_deck : FnOk P w K mg base CX0 1 g1 gd1 ["script"] (spDeck K))
    (T_law_house : FnT K mg "_law_house" s_law_house ["deck"] g2 gd2) (G_law_house : FnOk P w K mg base CX0 9 g2 gd2 ["deck"] spMkHouse)
    (T_law_copy : FnT K mg "_law_copy" s_law_copy ["house"] g3 gd3) (G_law_copy : FnOk P w K mg base CX0 1 g3 gd3 ["house"] spCopy)
    (T_is_house : FnT K mg "is_house" s_is_house ["thing"] g4 gd4) (G_is_house : FnOk P w K mg base CX0 5 g4 gd4 ["thing"] (spHouseX P w K))
    (T_law_bad : FnT K mg "_law_bad" s_law_bad ["house", "deck"] g5 gd5) (G_law_bad : FnOk P w K mg base CX0 10 g5 gd5 ["house", "deck"] (spBad P w K))
    (T_law_is_house : FnT K mg "_law_is_house" s_law_is_house ["thing"] g6 gd6) (G_law_is_house : FnOk P w K mg base CX0 14 g6 gd6 ["thing"] (spHouseX P w K))
    (T : Blt mg) (kd : Kinds K) : FnOk P w K mg base CX0 15 f fd ["script"] (spLaw K) := by
  refine T_law.F.okQ sc_law (fun vs H Q E h => ?_) (fun cdv A outer s H vs Q E hr h => ?_)
  · obtain ⟨a, ns, rfl, _⟩ := h
    rfl
  obtain ⟨a, ns, rfl, hS, h63, q⟩ := h
  refine ⟨_, (qss_cons (qs_set (i := 1) sc_law.nd rfl lo_law_deck (qe_call (G_law_deck.mono (by omega)) hr gl_law__law_deck T_law_deck.m T_law_deck.F.kp T_law_deck.b .nil pass0 (qa_N (qe_var 0 vo_law_script) qa_nil) db_law__law_deck))
    (qss_cons (qs_for PassesOwn.never rfl (qi_range1 gl_law_range T.b_range (qa_C qe_int qa_nil)) (qg_name (i := 2) sc_law.nd rfl lo_law_k) (qss_cons (qs_set (i := 3) sc_law.nd rfl lo_law_house (qe_call (G_law_house.mono (by omega)) hr gl_law__law_house T_law_house.m T_law_house.F.kp T_law_house.b .nil pass0 (qa_N (qe_var 1 vo_law_deck) qa_nil) db_law__law_house))
    (qss_cons (qs_set (i := 4) sc_law.nd rfl lo_law_handed (qe_call (G_law_copy.mono (by omega)) hr gl_law__law_copy T_law_copy.m T_law_copy.F.kp T_law_copy.b .nil pass0 (qa_N (qe_var 3 vo_law_house) qa_nil) db_law__law_copy))
    (qss_cons (qs_if (qt_w (qw_or (qt_cmp qop_notB (qe_call (G_is_house.mono (by omega)) hr gl_law_is_house T_is_house.m T_is_house.F.kp T_is_house.b .nil pass0 (qa_N (qe_var 4 vo_law_handed) qa_nil) db_law_is_house) qe_bl (nomarkQ _)) (qw_or1 (qt_cmp (qop_nePair (P := P) (w := w) rfl rfl hr.units) (qe_var 4 vo_law_handed) (qe_var 3 vo_law_house) (nomarkQ _))))) (qss_one (qs_ret qe_bl)) qss_nil)
    (qss_one (qs_for PassesOwn.never rfl (qi_range1 gl_law_range T.b_range (qa_C qe_int qa_nil)) (qg_name (i := 5) sc_law.nd rfl lo_law_turn) (qss_cons (qs_set (i := 6) sc_law.nd rfl lo_law_thing (qe_call (G_law_bad.mono (by omega)) hr gl_law__law_bad T_law_bad.m T_law_bad.F.kp T_law_bad.b .nil pass0 (qa_N (qe_var 3 vo_law_house) (qa_N (qe_var 1 vo_law_deck) qa_nil)) db_law__law_bad))
    (qss_cons (qs_set (i := 7) sc_law.nd rfl lo_law_found (qe_call (G_is_house.mono (by omega)) hr gl_law_is_house T_is_house.m T_is_house.F.kp T_is_house.b .nil pass0 (qa_N (qe_var 6 vo_law_thing) qa_nil) db_law_is_house))
    (qss_one (qs_if (qt_w (qw_or (qt_not (qt_val (qe_callB qc_isi gl_law_isinstance T.b_isinstance bt_isinstance (qa_N (qe_var 7 vo_law_found) (qa_N (qe_bltn (v := .ty "bool") gl_law_bool T.b_bool bt_bool rfl nn_law_bool db_law_bool) qa_nil)) nn_law_isinstance db_law_isinstance))) (qw_or1 (qt_cmp qop_ne (qe_var 7 vo_law_found) (qe_call (G_law_is_house.mono (by omega)) hr gl_law__law_is_house T_law_is_house.m T_law_is_house.F.kp T_law_is_house.b .nil pass0 (qa_N (qe_var 6 vo_law_thing) qa_nil) db_law__law_is_house) (nomarkQ _))))) (qss_one (qs_ret qe_bl)) qss_nil))))))))))
    (qss_one (qs_ret (qe_cmp qop_isB (qe_call (G_is_house.mono (by omega)) hr gl_law_is_house T_is_house.m T_is_house.F.kp T_is_house.b .nil pass0 (qa_T (qe_tup (qa_D qe_dnewK (qa_D qe_dnewK qa_nil))) qa_nil) db_law_is_house) qe_bl (nomarkQ _)))))), ?_⟩
  walk_at "vs"
  intro d c H1 s1 hd hc D1
  walk_at "vs"
  refine for_range (fun i σ H' => Wr ((∃ t2 t3 t4 t5 t6 t7, σ = [some (.ref a), some (.ref d), t2, t3, t4, t5, t6, t7]) ∧ DeckAt H' d c)) ?_ ?_ ?_
  · exact .mk ⟨⟨_, _, _, _, _, _, rfl⟩, D1⟩
  · intro i σ H2 hi hP
    obtain ⟨⟨t2, t3, t4, t5, t6, t7, rfl⟩, D2⟩ := hP.h
    clear hP
    walk_at "vs"
    intro h g r kg kr H3 b3 D3 eh3 G3
    have eg3 := G3.eg
    have er3 := G3.er
    walk_at "vs"
    intro h' g' r' H4 S4 fg fr ne4 eh4 eg4 er4
    have D4 := D3.same S4
    have G4 : HG H4 g r kg kr := ⟨S4 _ _ G3.eg, S4 _ _ G3.er, G3.ne, G3.gn, goodH_tups (Same.tups S4) G3.gh, G3.dj, G3.lg, G3.lr⟩
    have ehh4 := S4 _ _ eh3
    obtain ⟨tg, tr, ht, B4⟩ := good_house (P := P) (w := w) eh4 ne4 eg4 er4 G4.gn G4.gh G4.dj
    have fS : ∀ x ∈ [g', r'], H3 x = none := fun x hx => by
      rcases List.mem_cons.mp hx with rfl | z
      · exact fg
      · rw [List.mem_singleton.mp z]; exact fr
    clear G3 S4 b3
    walk_at "vs"
    refine .inr ⟨h', g', r', kg, none, kr, none, tg, tr, rfl, B4, fun H5 b5 B5 => ?_⟩
    rw [ht]
    have t5 := B4.tups b5
    have G5 := G4.but b5 (nin_fresh eg3 fS) (nin_fresh er3 fS) t5
    have eh5 := t5 _ _ ehh4
    have D5 : DeckAt H5 d c := D4.keep b5 (by obtain ⟨xs, e⟩ := D3.lists d (by simp); exact nin_fresh e fS) (by obtain ⟨xs, e⟩ := D3.lists c (by simp); exact nin_fresh e fS)
    clear fS b5 B4 G4 D4 D3 eh4 eg4 er4 eg3 er3 ehh4 eh3 fg fr ht
    walk_at "vs"
    refine ⟨B5.eh, eh5, B5.dg, B5.dc, .inl ⟨G5.eg, rfl⟩, .inl ⟨G5.er, rfl⟩, fun p hp => ?_, fun p hp => ?_, ?_⟩
    · obtain ⟨x, n, rfl, _⟩ := G5.gn p hp
      rfl
    · obtain ⟨x, a', r'', rfl, _⟩ := G5.gh p hp
      rfl
    clear t5 B5 ne4
    walk_at "vs"
    refine for_range (fun j σ H' => Wr ((∃ t5 t6 t7, σ = [some (.ref a), some (.ref d), some (.int (0 + i)), some (.ref h), some (.ref h'), t5, t6, t7]) ∧ DeckAt H' d c ∧ H' h = some (.tup [.ref g, .ref r]) ∧ HG H' g r kg kr)) ?_ ?_ ?_
    · exact .mk ⟨⟨_, _, _, rfl⟩, D5, eh5, G5⟩
    · intro j σ H6 hj hQ
      obtain ⟨⟨u5, u6, u7, rfl⟩, D6, eh6, G6⟩ := hQ.h
      clear hQ D5 eh5 G5
      walk_at "vs"
      intro v S b H7 b7 D7 hT fS
      have t7 := D6.tups b7
      have eh7 := t7 _ _ eh6
      have G7 := G6.but b7 (nin_deck D6 G6.eg) (nin_deck D6 G6.er) t7
      have ngS := nin_fresh G6.eg fS
      have nrS := nin_fresh G6.er fS
      have ndS : d ∉ S := by obtain ⟨xs, e⟩ := D6.lists d (by simp); exact nin_fresh e fS
      have ncS : c ∉ S := by obtain ⟨xs, e⟩ := D6.lists c (by simp); exact nin_fresh e fS
      clear t7 b7 G6 eh6 D6 fS
      walk_at "vs"
      rcases hT with ⟨t, rfl, ht, asc, np, rfl⟩ | ⟨h2, g2, c2, kg2, lg2, kr2, lr2, tg2, tr2, rfl, rfl, rfl, B7⟩
      · refine .inl ⟨t, ht, asc, np, fun H8 s8 => ?_⟩
        have kb : PySem.W.kitOne K (.type "bool") (.type "bool") = some true := kit_same _
        walk_at "vs"
        refine .inl ⟨t, ht.same s8, asc, np, fun H9 s9 => ?_⟩
        have s79 := s8.trans s9
        walk_at "vs"
        refine itB_f (by simp) ?_
        exact .mk ⟨⟨_, _, _, rfl⟩, D7.same s79, s79 _ _ eh7, G7.but (But.of_same (S := []) s79) (by simp) (by simp) (Same.tups s79)⟩
      · refine .inr ⟨h2, g2, c2, kg2, lg2, kr2, lr2, tg2, tr2, rfl, B7, fun H8 b8 B8 => ?_⟩
        have kb : PySem.W.kitOne K (.type "bool") (.type "bool") = some true := kit_same _
        walk_at "vs"
        refine .inr ⟨h2, g2, c2, kg2, lg2, kr2, lr2, tg2, tr2, rfl, B8, fun H9 b9 B9 => ?_⟩
        have b79 := b8.trans b9
        have t9 := B7.tups b79
        walk_at "vs"
        refine itB_f (by simp) ?_
        exact .mk ⟨⟨_, _, _, rfl⟩, D7.keep b79 ndS ncS, t9 _ _ eh7, G7.but b79 ngS nrS t9⟩
    · intro σ H6 hQ
      obtain ⟨⟨u5, u6, u7, rfl⟩, D6, _, _⟩ := hQ.h
      exact .mk ⟨⟨_, _, _, _, _, _, rfl⟩, D6⟩
  · intro σ H2 hP
    obtain ⟨⟨t2, t3, t4, t5, t6, t7, rfl⟩, D2⟩ := hP.h
    clear hP
    walk_at "vs"
    intro g hg
    have e1 : upd H2 g (.dK []) g = some (.dK []) := upd_same
    generalize upd H2 g (.dK []) = H3 at *
    walk_at "vs"
    intro r hrn
    have ne := ne_of_none e1 hrn
    have e2 := same_new (.dK []) hrn _ _ e1
    have e3 : upd H3 r (.dK []) r = some (.dK []) := upd_same
    generalize upd H3 r (.dK []) = H4 at *
    walk_at "vs"
    intro h hh
    have S := same_new (.tup [V.ref g, V.ref r]) hh
    have e4 : upd H4 h (.tup [V.ref g, V.ref r]) h = some (.tup [V.ref g, V.ref r]) := upd_same
    obtain ⟨tg, tr, ht, B4⟩ := good_house (P := P) (w := w) e4 ne (S _ _ e2) (S _ _ e3) (fun p hp => by simp at hp) (fun p hp => by simp at hp) (fun p hp => by simp at hp)
    generalize upd H4 h (.tup [V.ref g, V.ref r]) = H5 at *
    walk_at "vs"
    refine .inr ⟨h, g, r, [], none, [], none, tg, tr, rfl, B4, fun H6 b6 B6 => ?_⟩
    rw [ht]
    walk_at "vs"
    exact q _
end

theorem fnT_mk {K : PySem.W.Frag} {h : Heap} {mg : Str → Option Value} (X : K.In h) (G : h.Ns mainGlobals mg) {x : Str} {st : Stmt} {ps : List Str} {f : Addr} {oc : Value} {od an : Option Addr} {osl : Array (Option Value)} {kV doc pm cdv ct : Value}
    (a : PySem.W.nsIn K mainGlobals x = some (some (.ref f))) (l : K.lookup f = some ⟨oc, od, .func (PySem.W.fnOf x x (defArgs st) (defBody st) (defScope st) .none kV doc pm an cdv ct), osl⟩) (c : PySem.W.codeIn K cdv x = true) (k : PySem.W.keepIn K (.ref f) = true)
    (hb : ∀ us : List Value, us.length = ps.length → bindArgs (PySem.W.fnOf x x (defArgs st) (defBody st) (defScope st) .none kV doc pm an cdv ct) ⟨us, []⟩ = pure (ps.zip us)) :
    FnT K mg x st ps f (PySem.W.fnOf x x (defArgs st) (defBody st) (defScope st) .none kV doc pm an cdv ct) :=
  ⟨fun_mk l c k, Binds.all hb, PySem.W.mg_of X G a⟩


theorem all_mk {l : PySem.W.OpenLaw} {w : World} {K : PySem.W.Frag} {h : Heap} {mg : Str → Option Value} {fa f1 f2 f3 f4 f5 f6 f7 f8 f9 f10 f11 f12 f13 f14 f15 f16 f17 f18 f19 f20 f21 f22 f23 f24 : Addr} (X : K.In h) (G : h.Ns mainGlobals mg) (hfa : mg "law" = some (.ref fa))
    {od1 an1 od2 an2 od3 an3 od4 an4 od5 an5 od6 an6 od7 an7 od8 an8 od9 an9 od10 an10 od11 an11 od12 an12 od13 an13 od14 an14 od15 an15 od16 an16 od17 an17 od18 an18 od19 an19 od20 an20 od21 an21 od22 an22 od23 an23 od24 an24 : Option Addr} {sl1 sl2 sl3 sl4 sl5 sl6 sl7 sl8 sl9 sl10 sl11 sl12 sl13 sl14 sl15 sl16 sl17 sl18 sl19 sl20 sl21 sl22 sl23 sl24 : Array (Option Value)} {oc1 kV1 dc1 pm1 cd1 ct1 oc2 kV2 dc2 pm2 cd2 ct2 oc3 kV3 dc3 pm3 cd3 ct3 oc4 kV4 dc4 pm4 cd4 ct4 oc5 kV5 dc5 pm5 cd5 ct5 oc6 kV6 dc6 pm6 cd6 ct6 oc7 kV7 dc7 pm7 cd7 ct7 oc8 kV8 dc8 pm8 cd8 ct8 oc9 kV9 dc9 pm9 cd9 ct9 oc10 kV10 dc10 pm10 cd10 ct10 oc11 kV11 dc11 pm11 cd11 ct11 oc12 kV12 dc12 pm12 cd12 ct12 oc13 kV13 dc13 pm13 cd13 ct13 oc14 kV14 dc14 pm14 cd14 ct14 oc15 kV15 dc15 pm15 cd15 ct15 oc16 kV16 dc16 pm16 cd16 ct16 oc17 kV17 dc17 pm17 cd17 ct17 oc18 kV18 dc18 pm18 cd18 ct18 oc19 kV19 dc19 pm19 cd19 ct19 oc20 kV20 dc20 pm20 cd20 ct20 oc21 kV21 dc21 pm21 cd21 ct21 oc22 kV22 dc22 pm22 cd22 ct22 oc23 kV23 dc23 pm23 cd23 ct23 oc24 kV24 dc24 pm24 cd24 ct24 : Value}
    (a1 : PySem.W.nsIn K mainGlobals "is_whole_number" = some (some (.ref f1))) (l1 : K.lookup f1 = some ⟨oc1, od1, .func (PySem.W.fnOf "is_whole_number" "is_whole_number" (defArgs s_is_whole_number) (defBody s_is_whole_number) (defScope s_is_whole_number) .none kV1 dc1 pm1 an1 cd1 ct1), sl1⟩) (c1 : PySem.W.codeIn K cd1 "is_whole_number" = true) (k1 : PySem.W.keepIn K (.ref f1) = true)
    (a2 : PySem.W.nsIn K mainGlobals "is_name" = some (some (.ref f2))) (l2 : K.lookup f2 = some ⟨oc2, od2, .func (PySem.W.fnOf "is_name" "is_name" (defArgs s_is_name) (defBody s_is_name) (defScope s_is_name) .none kV2 dc2 pm2 an2 cd2 ct2), sl2⟩) (c2 : PySem.W.codeIn K cd2 "is_name" = true) (k2 : PySem.W.keepIn K (.ref f2) = true)
    (a3 : PySem.W.nsIn K mainGlobals "is_choice" = some (some (.ref f3))) (l3 : K.lookup f3 = some ⟨oc3, od3, .func (PySem.W.fnOf "is_choice" "is_choice" (defArgs s_is_choice) (defBody s_is_choice) (defScope s_is_choice) .none kV3 dc3 pm3 an3 cd3 ct3), sl3⟩) (c3 : PySem.W.codeIn K cd3 "is_choice" = true) (k3 : PySem.W.keepIn K (.ref f3) = true)
    (a4 : PySem.W.nsIn K mainGlobals "has_shape" = some (some (.ref f4))) (l4 : K.lookup f4 = some ⟨oc4, od4, .func (PySem.W.fnOf "has_shape" "has_shape" (defArgs s_has_shape) (defBody s_has_shape) (defScope s_has_shape) .none kV4 dc4 pm4 an4 cd4 ct4), sl4⟩) (c4 : PySem.W.codeIn K cd4 "has_shape" = true) (k4 : PySem.W.keepIn K (.ref f4) = true)
    (a5 : PySem.W.nsIn K mainGlobals "recipes_within" = some (some (.ref f5))) (l5 : K.lookup f5 = some ⟨oc5, od5, .func (PySem.W.fnOf "recipes_within" "recipes_within" (defArgs s_recipes_within) (defBody s_recipes_within) (defScope s_recipes_within) .none kV5 dc5 pm5 an5 cd5 ct5), sl5⟩) (c5 : PySem.W.codeIn K cd5 "recipes_within" = true) (k5 : PySem.W.keepIn K (.ref f5) = true)
    (a6 : PySem.W.nsIn K mainGlobals "is_recipe" = some (some (.ref f6))) (l6 : K.lookup f6 = some ⟨oc6, od6, .func (PySem.W.fnOf "is_recipe" "is_recipe" (defArgs s_is_recipe) (defBody s_is_recipe) (defScope s_is_recipe) .none kV6 dc6 pm6 an6 cd6 ct6), sl6⟩) (c6 : PySem.W.codeIn K cd6 "is_recipe" = true) (k6 : PySem.W.keepIn K (.ref f6) = true)
    (a7 : PySem.W.nsIn K mainGlobals "is_house" = some (some (.ref f7))) (l7 : K.lookup f7 = some ⟨oc7, od7, .func (PySem.W.fnOf "is_house" "is_house" (defArgs s_is_house) (defBody s_is_house) (defScope s_is_house) .none kV7 dc7 pm7 an7 cd7 ct7), sl7⟩) (c7 : PySem.W.codeIn K cd7 "is_house" = true) (k7 : PySem.W.keepIn K (.ref f7) = true)
    (a8 : PySem.W.nsIn K mainGlobals "_law_deck" = some (some (.ref f8))) (l8 : K.lookup f8 = some ⟨oc8, od8, .func (PySem.W.fnOf "_law_deck" "_law_deck" (defArgs s_law_deck) (defBody s_law_deck) (defScope s_law_deck) .none kV8 dc8 pm8 an8 cd8 ct8), sl8⟩) (c8 : PySem.W.codeIn K cd8 "_law_deck" = true) (k8 : PySem.W.keepIn K (.ref f8) = true)
    (a9 : PySem.W.nsIn K mainGlobals "_law_draw" = some (some (.ref f9))) (l9 : K.lookup f9 = some ⟨oc9, od9, .func (PySem.W.fnOf "_law_draw" "_law_draw" (defArgs s_law_draw) (defBody s_law_draw) (defScope s_law_draw) .none kV9 dc9 pm9 an9 cd9 ct9), sl9⟩) (c9 : PySem.W.codeIn K cd9 "_law_draw" = true) (k9 : PySem.W.keepIn K (.ref f9) = true)
    (a10 : PySem.W.nsIn K mainGlobals "_law_name" = some (some (.ref f10))) (l10 : K.lookup f10 = some ⟨oc10, od10, .func (PySem.W.fnOf "_law_name" "_law_name" (defArgs s_law_name) (defBody s_law_name) (defScope s_law_name) .none kV10 dc10 pm10 an10 cd10 ct10), sl10⟩) (c10 : PySem.W.codeIn K cd10 "_law_name" = true) (k10 : PySem.W.keepIn K (.ref f10) = true)
    (a11 : PySem.W.nsIn K mainGlobals "_law_number" = some (some (.ref f11))) (l11 : K.lookup f11 = some ⟨oc11, od11, .func (PySem.W.fnOf "_law_number" "_law_number" (defArgs s_law_number) (defBody s_law_number) (defScope s_law_number) .none kV11 dc11 pm11 an11 cd11 ct11), sl11⟩) (c11 : PySem.W.codeIn K cd11 "_law_number" = true) (k11 : PySem.W.keepIn K (.ref f11) = true)
    (a12 : PySem.W.nsIn K mainGlobals "_law_recipe" = some (some (.ref f12))) (l12 : K.lookup f12 = some ⟨oc12, od12, .func (PySem.W.fnOf "_law_recipe" "_law_recipe" (defArgs s_law_recipe) (defBody s_law_recipe) (defScope s_law_recipe) .none kV12 dc12 pm12 an12 cd12 ct12), sl12⟩) (c12 : PySem.W.codeIn K cd12 "_law_recipe" = true) (k12 : PySem.W.keepIn K (.ref f12) = true)
    (a13 : PySem.W.nsIn K mainGlobals "_law_is_name" = some (some (.ref f13))) (l13 : K.lookup f13 = some ⟨oc13, od13, .func (PySem.W.fnOf "_law_is_name" "_law_is_name" (defArgs s_law_is_name) (defBody s_law_is_name) (defScope s_law_is_name) .none kV13 dc13 pm13 an13 cd13 ct13), sl13⟩) (c13 : PySem.W.codeIn K cd13 "_law_is_name" = true) (k13 : PySem.W.keepIn K (.ref f13) = true)
    (a14 : PySem.W.nsIn K mainGlobals "_law_spots" = some (some (.ref f14))) (l14 : K.lookup f14 = some ⟨oc14, od14, .func (PySem.W.fnOf "_law_spots" "_law_spots" (defArgs s_law_spots) (defBody s_law_spots) (defScope s_law_spots) .none kV14 dc14 pm14 an14 cd14 ct14), sl14⟩) (c14 : PySem.W.codeIn K cd14 "_law_spots" = true) (k14 : PySem.W.keepIn K (.ref f14) = true)
    (a15 : PySem.W.nsIn K mainGlobals "_law_size" = some (some (.ref f15))) (l15 : K.lookup f15 = some ⟨oc15, od15, .func (PySem.W.fnOf "_law_size" "_law_size" (defArgs s_law_size) (defBody s_law_size) (defScope s_law_size) .none kV15 dc15 pm15 an15 cd15 ct15), sl15⟩) (c15 : PySem.W.codeIn K cd15 "_law_size" = true) (k15 : PySem.W.keepIn K (.ref f15) = true)
    (a16 : PySem.W.nsIn K mainGlobals "_law_is" = some (some (.ref f16))) (l16 : K.lookup f16 = some ⟨oc16, od16, .func (PySem.W.fnOf "_law_is" "_law_is" (defArgs s_law_is) (defBody s_law_is) (defScope s_law_is) .none kV16 dc16 pm16 an16 cd16 ct16), sl16⟩) (c16 : PySem.W.codeIn K cd16 "_law_is" = true) (k16 : PySem.W.keepIn K (.ref f16) = true)
    (a17 : PySem.W.nsIn K mainGlobals "_law_wrong" = some (some (.ref f17))) (l17 : K.lookup f17 = some ⟨oc17, od17, .func (PySem.W.fnOf "_law_wrong" "_law_wrong" (defArgs s_law_wrong) (defBody s_law_wrong) (defScope s_law_wrong) .none kV17 dc17 pm17 an17 cd17 ct17), sl17⟩) (c17 : PySem.W.codeIn K cd17 "_law_wrong" = true) (k17 : PySem.W.keepIn K (.ref f17) = true)
    (a18 : PySem.W.nsIn K mainGlobals "_law_spoilt" = some (some (.ref f18))) (l18 : K.lookup f18 = some ⟨oc18, od18, .func (PySem.W.fnOf "_law_spoilt" "_law_spoilt" (defArgs s_law_spoilt) (defBody s_law_spoilt) (defScope s_law_spoilt) .none kV18 dc18 pm18 an18 cd18 ct18), sl18⟩) (c18 : PySem.W.codeIn K cd18 "_law_spoilt" = true) (k18 : PySem.W.keepIn K (.ref f18) = true)
    (a19 : PySem.W.nsIn K mainGlobals "_law_whole" = some (some (.ref f19))) (l19 : K.lookup f19 = some ⟨oc19, od19, .func (PySem.W.fnOf "_law_whole" "_law_whole" (defArgs s_law_whole) (defBody s_law_whole) (defScope s_law_whole) .none kV19 dc19 pm19 an19 cd19 ct19), sl19⟩) (c19 : PySem.W.codeIn K cd19 "_law_whole" = true) (k19 : PySem.W.keepIn K (.ref f19) = true)
    (a20 : PySem.W.nsIn K mainGlobals "_law_house" = some (some (.ref f20))) (l20 : K.lookup f20 = some ⟨oc20, od20, .func (PySem.W.fnOf "_law_house" "_law_house" (defArgs s_law_house) (defBody s_law_house) (defScope s_law_house) .none kV20 dc20 pm20 an20 cd20 ct20), sl20⟩) (c20 : PySem.W.codeIn K cd20 "_law_house" = true) (k20 : PySem.W.keepIn K (.ref f20) = true)
    (a21 : PySem.W.nsIn K mainGlobals "_law_is_house" = some (some (.ref f21))) (l21 : K.lookup f21 = some ⟨oc21, od21, .func (PySem.W.fnOf "_law_is_house" "_law_is_house" (defArgs s_law_is_house) (defBody s_law_is_house) (defScope s_law_is_house) .none kV21 dc21 pm21 an21 cd21 ct21), sl21⟩) (c21 : PySem.W.codeIn K cd21 "_law_is_house" = true) (k21 : PySem.W.keepIn K (.ref f21) = true)
    (a22 : PySem.W.nsIn K mainGlobals "_law_bad" = some (some (.ref f22))) (l22 : K.lookup f22 = some ⟨oc22, od22, .func (PySem.W.fnOf "_law_bad" "_law_bad" (defArgs s_law_bad) (defBody s_law_bad) (defScope s_law_bad) .none kV22 dc22 pm22 an22 cd22 ct22), sl22⟩) (c22 : PySem.W.codeIn K cd22 "_law_bad" = true) (k22 : PySem.W.keepIn K (.ref f22) = true)
    (a23 : PySem.W.nsIn K mainGlobals "_law_copy" = some (some (.ref f23))) (l23 : K.lookup f23 = some ⟨oc23, od23, .func (PySem.W.fnOf "_law_copy" "_law_copy" (defArgs s_law_copy) (defBody s_law_copy) (defScope s_law_copy) .none kV23 dc23 pm23 an23 cd23 ct23), sl23⟩) (c23 : PySem.W.codeIn K cd23 "_law_copy" = true) (k23 : PySem.W.keepIn K (.ref f23) = true)
    (a24 : PySem.W.nsIn K mainGlobals "law" = some (some (.ref f24))) (l24 : K.lookup f24 = some ⟨oc24, od24, .func (PySem.W.fnOf "law" "law" (defArgs s_law) (defBody s_law) (defScope s_law) .none kV24 dc24 pm24 an24 cd24 ct24), sl24⟩) (c24 : PySem.W.codeIn K cd24 "law" = true) (k24 : PySem.W.keepIn K (.ref f24) = true)
    {aW : Addr} (taW : PySem.W.nsIn K mainGlobals "WITHIN" = some (some (.ref aW))) (tbaW : Tab l.prog w K aW withinD)
    {tLT : Tok} (qLT : PySem.W.nsIn K mainGlobals "LETTERS" = some (some (.str "abcdefghijklmnopqrstuvwxyz" tLT)))
    {tML : Tok} (qML : PySem.W.nsIn K mainGlobals "MOST_LETTERS" = some (some (.int 8 tML)))
    {tMC : Tok} (qMC : PySem.W.nsIn K mainGlobals "MOST_CHOICES" = some (some (.int 9 tMC)))
    {tMD : Tok} (qMD : PySem.W.nsIn K mainGlobals "MOST_DEPTH" = some (some (.int 8 tMD)))
    {tMR : Tok} (qMR : PySem.W.nsIn K mainGlobals "MOST_RECIPES" = some (some (.int 100 tMR)))
    (kd : Kinds K)
    (z_len : PySem.W.nsIn K mainGlobals "len" = some none)
    (z_range : PySem.W.nsIn K mainGlobals "range" = some none)
    (z_str : PySem.W.nsIn K mainGlobals "str" = some none)
    (z_int : PySem.W.nsIn K mainGlobals "int" = some none)
    (z_list : PySem.W.nsIn K mainGlobals "list" = some none)
    (z_tuple : PySem.W.nsIn K mainGlobals "tuple" = some none)
    (z_isinstance : PySem.W.nsIn K mainGlobals "isinstance" = some none)
    (z_bool : PySem.W.nsIn K mainGlobals "bool" = some none)
    (z_dict : PySem.W.nsIn K mainGlobals "dict" = some none)
    (z_sum : PySem.W.nsIn K mainGlobals "sum" = some none)
    (z_all : PySem.W.nsIn K mainGlobals "all" = some none)
    (z_any : PySem.W.nsIn K mainGlobals "any" = some none)
    (z_max : PySem.W.nsIn K mainGlobals "max" = some none)
    (z_min : PySem.W.nsIn K mainGlobals "min" = some none)
    (z_sorted : PySem.W.nsIn K mainGlobals "sorted" = some none)
    (z_set : PySem.W.nsIn K mainGlobals "set" = some none)
    (z_enumerate : PySem.W.nsIn K mainGlobals "enumerate" = some none)
    (z_zip : PySem.W.nsIn K mainGlobals "zip" = some none)
    (z_reversed : PySem.W.nsIn K mainGlobals "reversed" = some none)
    (z_abs : PySem.W.nsIn K mainGlobals "abs" = some none)
    : ∃ fd : FuncData, (∀ (s : Shared) (v : Value), BindsTo s fd ⟨[v], []⟩ [("script", v)]) ∧ ∀ base : Heap, K.In base → base.Ns mainGlobals mg → FnOk l.prog w K mg base CX0 15 fa fd ["script"] (spLaw K) := by
  have e := hfa.symm.trans (PySem.W.mg_of X G a24)
  cases e
  have T_is_whole_number : FnT K mg "is_whole_number" s_is_whole_number ["thing"] _ _ := fnT_mk X G a1 l1 c1 k1 (fun us hl => match us, hl with | [_], _ => rfl)
  have T_is_name : FnT K mg "is_name" s_is_name ["thing"] _ _ := fnT_mk X G a2 l2 c2 k2 (fun us hl => match us, hl with | [_], _ => rfl)
  have T_is_choice : FnT K mg "is_choice" s_is_choice ["thing"] _ _ := fnT_mk X G a3 l3 c3 k3 (fun us hl => match us, hl with | [_], _ => rfl)
  have T_has_shape : FnT K mg "has_shape" s_has_shape ["thing"] _ _ := fnT_mk X G a4 l4 c4 k4 (fun us hl => match us, hl with | [_], _ => rfl)
  have T_recipes_within : FnT K mg "recipes_within" s_recipes_within ["r"] _ _ := fnT_mk X G a5 l5 c5 k5 (fun us hl => match us, hl with | [_], _ => rfl)
  have T_is_recipe : FnT K mg "is_recipe" s_is_recipe ["thing"] _ _ := fnT_mk X G a6 l6 c6 k6 (fun us hl => match us, hl with | [_], _ => rfl)
  have T_is_house : FnT K mg "is_house" s_is_house ["thing"] _ _ := fnT_mk X G a7 l7 c7 k7 (fun us hl => match us, hl with | [_], _ => rfl)
  have T_law_deck : FnT K mg "_law_deck" s_law_deck ["script"] _ _ := fnT_mk X G a8 l8 c8 k8 (fun us hl => match us, hl with | [_], _ => rfl)
  have T_law_draw : FnT K mg "_law_draw" s_law_draw ["deck", "many"] _ _ := fnT_mk X G a9 l9 c9 k9 (fun us hl => match us, hl with | [_, _], _ => rfl)
  have T_law_name : FnT K mg "_law_name" s_law_name ["deck"] _ _ := fnT_mk X G a10 l10 c10 k10 (fun us hl => match us, hl with | [_], _ => rfl)
  have T_law_number : FnT K mg "_law_number" s_law_number ["deck"] _ _ := fnT_mk X G a11 l11 c11 k11 (fun us hl => match us, hl with | [_], _ => rfl)
  have T_law_recipe : FnT K mg "_law_recipe" s_law_recipe ["deck", "deep", "left"] _ _ := fnT_mk X G a12 l12 c12 k12 (fun us hl => match us, hl with | [_, _, _], _ => rfl)
  have T_law_is_name : FnT K mg "_law_is_name" s_law_is_name ["thing"] _ _ := fnT_mk X G a13 l13 c13 k13 (fun us hl => match us, hl with | [_], _ => rfl)
  have T_law_spots : FnT K mg "_law_spots" s_law_spots ["thing"] _ _ := fnT_mk X G a14 l14 c14 k14 (fun us hl => match us, hl with | [_], _ => rfl)
  have T_law_size : FnT K mg "_law_size" s_law_size ["thing", "depth"] _ _ := fnT_mk X G a15 l15 c15 k15 (fun us hl => match us, hl with | [_, _], _ => rfl)
  have T_law_is : FnT K mg "_law_is" s_law_is ["thing"] _ _ := fnT_mk X G a16 l16 c16 k16 (fun us hl => match us, hl with | [_], _ => rfl)
  have T_law_wrong : FnT K mg "_law_wrong" s_law_wrong ["r", "deck"] _ _ := fnT_mk X G a17 l17 c17 k17 (fun us hl => match us, hl with | [_, _], _ => rfl)
  have T_law_spoilt : FnT K mg "_law_spoilt" s_law_spoilt ["r", "deck"] _ _ := fnT_mk X G a18 l18 c18 k18 (fun us hl => match us, hl with | [_, _], _ => rfl)
  have T_law_whole : FnT K mg "_law_whole" s_law_whole ["thing"] _ _ := fnT_mk X G a19 l19 c19 k19 (fun us hl => match us, hl with | [_], _ => rfl)
  have T_law_house : FnT K mg "_law_house" s_law_house ["deck"] _ _ := fnT_mk X G a20 l20 c20 k20 (fun us hl => match us, hl with | [_], _ => rfl)
  have T_law_is_house : FnT K mg "_law_is_house" s_law_is_house ["thing"] _ _ := fnT_mk X G a21 l21 c21 k21 (fun us hl => match us, hl with | [_], _ => rfl)
  have T_law_bad : FnT K mg "_law_bad" s_law_bad ["house", "deck"] _ _ := fnT_mk X G a22 l22 c22 k22 (fun us hl => match us, hl with | [_, _], _ => rfl)
  have T_law_copy : FnT K mg "_law_copy" s_law_copy ["house"] _ _ := fnT_mk X G a23 l23 c23 k23 (fun us hl => match us, hl with | [_], _ => rfl)
  have T_law : FnT K mg "law" s_law ["script"] _ _ := fnT_mk X G a24 l24 c24 k24 (fun us hl => match us, hl with | [_], _ => rfl)
  have T : Blt mg := ⟨PySem.W.mg_none_of X G z_len, PySem.W.mg_none_of X G z_range, PySem.W.mg_none_of X G z_str, PySem.W.mg_none_of X G z_int, PySem.W.mg_none_of X G z_list, PySem.W.mg_none_of X G z_tuple, PySem.W.mg_none_of X G z_isinstance, PySem.W.mg_none_of X G z_bool, PySem.W.mg_none_of X G z_dict, PySem.W.mg_none_of X G z_sum, PySem.W.mg_none_of X G z_all, PySem.W.mg_none_of X G z_any, PySem.W.mg_none_of X G z_max, PySem.W.mg_none_of X G z_min, PySem.W.mg_none_of X G z_sorted, PySem.W.mg_none_of X G z_set, PySem.W.mg_none_of X G z_enumerate, PySem.W.mg_none_of X G z_zip, PySem.W.mg_none_of X G z_reversed, PySem.W.mg_none_of X G z_abs⟩
  have maW := PySem.W.mg_of X G taW
  have mLT := PySem.W.mg_of X G qLT
  have mML := PySem.W.mg_of X G qML
  have mMC := PySem.W.mg_of X G qMC
  have mMD := PySem.W.mg_of X G qMD
  have mMR := PySem.W.mg_of X G qMR
  refine ⟨PySem.W.fnOf "law" "law" (defArgs s_law) (defBody s_law) (defScope s_law) .none kV24 dc24 pm24 an24 cd24 ct24, fun s v => .of_eq rfl, fun base _ _ => ?_⟩
  have D1 := ok_is_whole_number (P := l.prog) (w := w) (base := base) T_is_whole_number T kd
  have D2 := ok_is_name (P := l.prog) (w := w) (base := base) T_is_name T kd mLT mML
  have D3 := ok_is_choice (P := l.prog) (w := w) (base := base) T_is_choice T_is_name D2 T kd mMC
  have D4 := ok_has_shape (P := l.prog) (w := w) (base := base) T_has_shape T_is_whole_number D1 T_is_name D2 T_is_choice D3 T kd maW tbaW
  have D5 := ok_recipes_within (P := l.prog) (w := w) (base := base) T_recipes_within T maW tbaW
  have D6 := ok_is_recipe (P := l.prog) (w := w) (base := base) T_is_recipe T_has_shape D4 T_recipes_within D5 T mMR mMD
  have D7 := ok_law_is_name (P := l.prog) (w := w) (base := base) T_law_is_name T kd
  have D8 := ok_law_spots (P := l.prog) (w := w) (base := base) T_law_spots T_law_is_name D7 T kd
  have D9 := ok_law_size (P := l.prog) (w := w) (base := base) T_law_size T_law_spots D8 T 9
  have D10 := ok_law_is (P := l.prog) (w := w) (base := base) T_law_is T_law_size D9 T
  have D11 := ok_law_draw (P := l.prog) (w := w) (base := base) T_law_draw T
  have D12 := ok_law_name (P := l.prog) (w := w) (base := base) T_law_name T_law_draw D11 T
  have D13 := ok_law_number (P := l.prog) (w := w) (base := base) T_law_number T_law_draw D11
  have D14 := ok_law_recipe T_law_recipe T_law_draw D11 T_law_name D12 T_law_number D13 T 6
  have D15 := ok_law_deck (P := l.prog) (w := w) (base := base) T_law_deck T
  have D16 := ok_law_wrong (P := l.prog) (w := w) (base := base) T_law_wrong T_law_draw D11 T
  have D17 := ok_law_spoilt (P := l.prog) (w := w) (base := base) T_law_spoilt T_law_spots D8 T_law_draw D11 T_law_wrong D16 T 6
  have D18 := ok_is_house (P := l.prog) (w := w) (base := base) T_is_house T_is_whole_number D1 T_is_name D2 T_is_recipe D6 T kd
  have D19 := ok_law_whole (P := l.prog) (w := w) (base := base) T_law_whole T kd
  have D20 := ok_law_is_house (P := l.prog) (w := w) (base := base) T_law_is_house T_law_whole D19 T_law_is_name D7 T_law_is D10 T kd
  have D21 := ok_law_house (P := l.prog) (w := w) (base := base) T_law_house T_law_draw D11 T_law_name D12 T_law_number D13 T_law_recipe D14 T
  have D22 := ok_law_copy (P := l.prog) (w := w) (base := base) T_law_copy T
  have D23 := ok_law_bad (P := l.prog) (w := w) (base := base) T_law_bad T_law_draw D11 T_law_name D12 T_law_recipe D14 T_law_spoilt D17 T
  exact ok_law T_law T_law_deck D15 T_law_house D21 T_law_copy D22 T_is_house D18 T_law_bad D23 T_law_is_house D20 T kd
theorem walk {l : PySem.W.OpenLaw} {q : Program} {loose : List Str} {XP : (Str → Option Value) → Heap → Prop} {YP : World → Heap → Prop} {d : DefRec} {K : Params → PySem.W.Frag} (hn : l.most = some 63) (hdf : d.params.defaults = [])
    (hY : ∀ (w : World) (h : Heap), YP w h → (K w.params).In h)
    (F : ∀ (w : World) (mg : Str → Option Value) (fa : Addr) (h : Heap), (K w.params).In h → h.Ns mainGlobals mg → mg d.name = some (.ref fa) →
      ∃ fd : FuncData, (∀ (s : Shared) (u : Value), BindsTo s fd ⟨[u], []⟩ [("script", u)]) ∧ ∀ base : Heap, (K w.params).In base → base.Ns mainGlobals mg → FnOk l.prog w (K w.params) mg base CX0 15 fa fd ["script"] (spLaw (K w.params))) :
    PySem.W.WalkO q loose XP YP l.row.toRowW d [] (fun f vs => PySem.call f vs) :=
  L2.walk_of (n := 63) (k := 15) (x := "script") (CX := fun _ => CX0) (sp := fun w => spLaw (K w.params)) hn (by decide) hdf ⟨rfl, by decide, by decide⟩ hY F (fun _ _ a ns hl _ hS => ⟨a, ns, rfl, hS, hl, fun _ => rfl⟩) fun _ _ _ _ _ z => z
end K03
open PySem PySem.W PyProof.Rows
set_option maxRecDepth 100000 in
set_option maxHeartbeats 0 in
theorem PySem.Challenge.cw_madeagain_k03_what_is_a_house_holds : PySem.Challenge.rw_madeagain_k03_what_is_a_house.Holds := by
  w_on; o_law; k_head; (case hw => w_witness2)
  k_fill
  refine K03.walk (l := PySem.Challenge.rw_madeagain_k03_what_is_a_house) rfl rfl (fun w h Y => PySem.W.kIn_of Y) ?F
  case F =>
    intro w mg fa h KX G hmg
    refine' K03.all_mk KX G hmg ?a1 ?l1 ?c1 ?k1 ?a2 ?l2 ?c2 ?k2 ?a3 ?l3 ?c3 ?k3 ?a4 ?l4 ?c4 ?k4 ?a5 ?l5 ?c5 ?k5 ?a6 ?l6 ?c6 ?k6 ?a7 ?l7 ?c7 ?k7 ?a8 ?l8 ?c8 ?k8 ?a9 ?l9 ?c9 ?k9 ?a10 ?l10 ?c10 ?k10 ?a11 ?l11 ?c11 ?k11 ?a12 ?l12 ?c12 ?k12 ?a13 ?l13 ?c13 ?k13 ?a14 ?l14 ?c14 ?k14 ?a15 ?l15 ?c15 ?k15 ?a16 ?l16 ?c16 ?k16 ?a17 ?l17 ?c17 ?k17 ?a18 ?l18 ?c18 ?k18 ?a19 ?l19 ?c19 ?k19 ?a20 ?l20 ?c20 ?k20 ?a21 ?l21 ?c21 ?k21 ?a22 ?l22 ?c22 ?k22 ?a23 ?l23 ?c23 ?k23 ?a24 ?l24 ?c24 ?k24 ?taW ?tbaW ?qLT ?qML ?qMC ?qMD ?qMR ?kd ?z_len ?z_range ?z_str ?z_int ?z_list ?z_tuple ?z_isinstance ?z_bool ?z_dict ?z_sum ?z_all ?z_any ?z_max ?z_min ?z_sorted ?z_set ?z_enumerate ?z_zip ?z_reversed ?z_abs
    (case a1 => k_is); (case l1 => k_is); (case c1 => k_is); (case k1 => k_is)
    (case a2 => k_is); (case l2 => k_is); (case c2 => k_is); (case k2 => k_is)
    (case a3 => k_is); (case l3 => k_is); (case c3 => k_is); (case k3 => k_is)
    (case a4 => k_is); (case l4 => k_is); (case c4 => k_is); (case k4 => k_is)
    (case a5 => k_is); (case l5 => k_is); (case c5 => k_is); (case k5 => k_is)
    (case a6 => k_is); (case l6 => k_is); (case c6 => k_is); (case k6 => k_is)
    (case a7 => k_is); (case l7 => k_is); (case c7 => k_is); (case k7 => k_is)
    (case a8 => k_is); (case l8 => k_is); (case c8 => k_is); (case k8 => k_is)
    (case a9 => k_is); (case l9 => k_is); (case c9 => k_is); (case k9 => k_is)
    (case a10 => k_is); (case l10 => k_is); (case c10 => k_is); (case k10 => k_is)
    (case a11 => k_is); (case l11 => k_is); (case c11 => k_is); (case k11 => k_is)
    (case a12 => k_is); (case l12 => k_is); (case c12 => k_is); (case k12 => k_is)
    (case a13 => k_is); (case l13 => k_is); (case c13 => k_is); (case k13 => k_is)
    (case a14 => k_is); (case l14 => k_is); (case c14 => k_is); (case k14 => k_is)
    (case a15 => k_is); (case l15 => k_is); (case c15 => k_is); (case k15 => k_is)
    (case a16 => k_is); (case l16 => k_is); (case c16 => k_is); (case k16 => k_is)
    (case a17 => k_is); (case l17 => k_is); (case c17 => k_is); (case k17 => k_is)
    (case a18 => k_is); (case l18 => k_is); (case c18 => k_is); (case k18 => k_is)
    (case a19 => k_is); (case l19 => k_is); (case c19 => k_is); (case k19 => k_is)
    (case a20 => k_is); (case l20 => k_is); (case c20 => k_is); (case k20 => k_is)
    (case a21 => k_is); (case l21 => k_is); (case c21 => k_is); (case k21 => k_is)
    (case a22 => k_is); (case l22 => k_is); (case c22 => k_is); (case k22 => k_is)
    (case a23 => k_is); (case l23 => k_is); (case c23 => k_is); (case k23 => k_is)
    (case a24 => k_is); (case l24 => k_is); (case c24 => k_is); (case k24 => k_is)
    (case taW => k_is); (case tbaW => exact L2.tab_mk (by kernel_rfl) (by decide +kernel) (by kernel_rfl))
    (case qLT => k_is)
    (case qML => k_is)
    (case qMC => k_is)
    (case qMD => k_is)
    (case qMR => k_is)
    (case kd => exact RB.kinds_mk (by kernel_rfl))
    (case z_len => k_is); (case z_range => k_is); (case z_str => k_is); (case z_int => k_is); (case z_list => k_is); (case z_tuple => k_is); (case z_isinstance => k_is); (case z_bool => k_is); (case z_dict => k_is); (case z_sum => k_is); (case z_all => k_is); (case z_any => k_is); (case z_max => k_is); (case z_min => k_is); (case z_sorted => k_is); (case z_set => k_is); (case z_enumerate => k_is); (case z_zip => k_is); (case z_reversed => k_is); (case z_abs => k_is)

