import PyProof.Rows.All
import Wide.All
import OpenK.AllK
import Wide.FinOn
import Lean
import PyProof.EqAt
import PyProof.EqKinds
import PyProof.TupleCall
import KE.KUnpack
import PyProof.ListRange
import PyProof.TupleOfGen
import PyProof.NeKinds
import KE.KRevIter
import PyProof.FactsAll.range_2
import KE.KTryMore
import PyProof.IsRules
import PyProof.IsInstanceH
import PyProof.ReprRoads
import PyProof.CallStr
import PySem.Challenge.RW_roundwords_k01_what_is_a_field
theorem wellS0:PySem.Challenge.rw_roundwords_k01_what_is_a_field.wellSaid=true:=by decide +kernel
section
-- text: PpList
-- CHANGE: your row's module here, as the last of these rows
set_option Elab.async false
set_option linter.all false
set_option maxRecDepth 100000
/-! THE HAND LAYER, for ints, bools, texts, own classes, LISTS and tuples (index, slices, in, append, pop ..), calls, loops. Paste it whole ahead of your own text; what your proof does not reach may be deleted. -/
namespace L2
open PySem PySem.Spec PyProof.Rows

/-- a key: an int or a str -/
noncomputable abbrev Key := Sum Int Str
noncomputable def keyIs : Key → Value → Bool
  | .inl k, v => Value.isInt k v
  | .inr x, v => Value.isStrOf x v
noncomputable def keyH (w : World) : Key → Int
  | .inl k => hashInt k
  | .inr x => hashStr w x
theorem keyIs_shape : ∀ {k : Key} {v : Value}, keyIs k v = true → (∃ i t, k = Sum.inl i ∧ v = Value.int i t) ∨ (∃ x t, k = Sum.inr x ∧ v = Value.str x t)
  | .inl i, v, h => by
    obtain ⟨t, e⟩ := Value.isInt_shape (k := i) (v := v) h
    exact .inl ⟨i, t, rfl, e⟩
  | .inr x, v, h => by
    obtain ⟨t, e⟩ := Value.isStrOf_shape (x := x) (v := v) h
    exact .inr ⟨x, t, rfl, e⟩
theorem key_ll (a b : Int) : decide ((Sum.inl a : Key) = Sum.inl b) = (a == b) := by
  by_cases e : a = b
  · subst e; simp
  · have h : ¬ (Sum.inl a : Key) = Sum.inl b := fun q => e (Sum.inl.inj q)
    rw [decide_eq_false h]
    exact (beq_eq_false_iff_ne.mpr e).symm
theorem key_rr (a b : Str) : decide ((Sum.inr a : Key) = Sum.inr b) = decide (a = b) := by
  by_cases e : a = b
  · subst e; simp
  · have h : ¬ (Sum.inr a : Key) = Sum.inr b := fun q => e (Sum.inr.inj q)
    rw [decide_eq_false h, decide_eq_false e]
theorem key_lr (a : Int) (b : Str) : decide ((Sum.inl a : Key) = Sum.inr b) = false := decide_eq_false (fun q => nomatch q)
theorem key_rl (a : Str) (b : Int) : decide ((Sum.inr a : Key) = Sum.inl b) = false := decide_eq_false (fun q => nomatch q)

noncomputable def mixKind (prog : Program) (w : World) : PySem.KeyKind prog w Key where
  is := keyIs
  hash := keyH w
  inj := fun v a b ha hb => by
    rcases keyIs_shape ha with ⟨i, t, rfl, rfl⟩ | ⟨x, t, rfl, rfl⟩
    · rcases keyIs_shape hb with ⟨j, u, rfl, e⟩ | ⟨y, u, rfl, e⟩
      · injection e with e1 _; rw [e1]
      · exact nomatch e
    · rcases keyIs_shape hb with ⟨j, u, rfl, e⟩ | ⟨y, u, rfl, e⟩
      · exact nomatch e
      · injection e with e1 _; rw [e1]
  byValue := fun k v h => by
    rcases keyIs_shape h with ⟨i, t, rfl, rfl⟩ | ⟨x, t, rfl, rfl⟩ <;> rfl
  pyHash := fun hv h => by
    rcases keyIs_shape hv with ⟨i, t, rfl, rfl⟩ | ⟨x, t, rfl, rfl⟩
    · exact wpAny_pyHash_int h
    · exact wpAny_pyHash_str h
  eqBool := fun hu hv h => by
    rcases keyIs_shape hu with ⟨i, t, rfl, rfl⟩ | ⟨x, t, rfl, rfl⟩
    · rcases keyIs_shape hv with ⟨j, u, rfl, rfl⟩ | ⟨y, u, rfl, rfl⟩
      · rw [key_ll] at h; exact wpAny_eqBool_int h
      · rw [key_lr] at h; exact SeqAt.EqAt.int_str i t y u _ _ _ _ h
    · rcases keyIs_shape hv with ⟨j, u, rfl, rfl⟩ | ⟨y, u, rfl, rfl⟩
      · rw [key_rl] at h; exact SeqAt.EqAt.str_int x t j u _ _ _ _ h
      · rw [key_rr] at h; exact wpAny_eqBool_str h
  «strs» := fun k x t v h => by
    rcases keyIs_shape h with ⟨i, u, rfl, e⟩ | ⟨y, u, rfl, e⟩
    · exact nomatch e
    · injection e with e1 _
      subst e1
      cases v <;> rfl

end L2

namespace L2
open PySem PySem.Spec PyProof.Rows

/-- a value, without the heap -/
inductive V where
  | non | bl (b : Bool) | int (i : Int) | str (x : Str) | byt (b : Array UInt8) | flt (b : UInt64) | ref (a : Addr) | ty (n : String)
  deriving DecidableEq

noncomputable def RelV : V → Value → Prop
  | .non, u => u = Value.none
  | .bl b, u => u = Value.bool b
  | .int i, u => ∃ t, u = Value.int i t
  | .str x, u => ∃ t, u = Value.str x t
  | .byt b, u => ∃ t, u = Value.bytes b t
  | .flt b, u => ∃ t, u = Value.float b t
  | .ref a, u => u = Value.ref a
  | .ty n, u => u = Value.type n

noncomputable abbrev Vals : List V → List Value → Prop := Paired RelV
theorem Vals.length {xs : List V} {us : List Value} (r : Vals xs us) : xs.length = us.length := Paired.length r
theorem Vals.get : ∀ {xs : List V} {us : List Value} {i : Nat} {x : V}, Vals xs us → xs[i]? = some x → ∃ u, us[i]? = some u ∧ RelV x u
  | _, _, _, _, .nil, e => by simp at e
  | _, _, 0, _, .cons r _, e => by simp at e; subst e; exact ⟨_, rfl, r⟩
  | _, _, i + 1, x, .cons _ t, e => by
    obtain ⟨u, h1, h2⟩ := Vals.get (i := i) (x := x) t (by simpa using e)
    exact ⟨u, by simpa using h1, h2⟩
theorem Vals.set {x : V} {u : Value} (r : RelV x u) : ∀ {xs : List V} {us : List Value} (i : Nat), Vals xs us → Vals (xs.set i x) (us.set i u)
  | _, _, _, .nil => .nil
  | _, _, 0, .cons _ t => .cons r t
  | _, _, i + 1, .cons q t => .cons q (Vals.set r i t)
theorem Vals.append : ∀ {xs ys : List V} {us ws : List Value}, Vals xs us → Vals ys ws → Vals (xs ++ ys) (us ++ ws)
  | _, _, _, _, .nil, s => s
  | _, _, _, _, .cons r t, s => .cons r (Vals.append t s)
theorem Vals.take : ∀ {xs : List V} {us : List Value} (n : Nat), Vals xs us → Vals (xs.take n) (us.take n)
  | _, _, 0, _ => .nil
  | _, _, _ + 1, .nil => .nil
  | _, _, n + 1, .cons r t => .cons r (Vals.take n t)
theorem Vals.drop : ∀ {xs : List V} {us : List Value} (n : Nat), Vals xs us → Vals (xs.drop n) (us.drop n)
  | _, _, 0, r => r
  | _, _, _ + 1, .nil => .nil
  | _, _, n + 1, .cons _ t => Vals.drop n t

noncomputable def RelO : Option V → Option Value → Prop
  | some v, some u => RelV v u
  | none, none => True
  | _, _ => False
noncomputable def KV {κ : Type} : List (κ × V) → List (κ × Value) → Prop := Paired fun (p : κ × V) (q : κ × Value) => p.1 = q.1 ∧ RelV p.2 q.2

/-- a key of a dict (00_mix): an int or a text -/
noncomputable def kV : Key → V
  | .inl i => .int i
  | .inr x => .str x

/-- what stands at a tracked address -/
inductive HO where
  /-- a list -/
  | lst (xs : List V)
  /-- a tuple (never changes) -/
  | tup (xs : List V)
  /-- a dict whose keys are ints and texts; one whose keys are tuples of ints and texts (the empty one is both) -/
  | dK (kvs : List (Key × V)) | dT (kvs : List (List Key × V))
  /-- a set of ints: its members, its size -/
  | set (S : Int → Bool) (n : Nat)
  /-- an instance of the class at C, its dict at dx, its attributes -/
  | ins (C dx : Addr) (fs : List (Str × V))
  /-- the dict of the instance at x -/
  | own (x : Addr)
  /-- the dict of an exception -/
  | xd (fs : List (Str × V))
  /-- a bound method, f of x -/
  | met (f x : Addr)
  /-- a range object lo, lo + 1, .. below hi -/
  | rng (lo hi : Int)
  /-- a thing that is known to the object (the script; a dict while a loop walks it): read, never written while it is so -/
  | frz (o : Obj) (u : HO)
  /-- a code object's table -/
  | tbl (ps : Array Value)
  /-- any other thing, by what is true of its one object (a def of one's own: SetO a S n := HO.ext fun h => ..) -/
  | ext (φ : Heap → Prop)

noncomputable abbrev Hp := Addr → Option HO
noncomputable def upd (H : Hp) (a : Addr) (o : HO) : Hp := fun b => if b = a then some o else H b
theorem upd_same {H : Hp} {a : Addr} {o : HO} : upd H a o a = some o := by unfold upd; rw [if_pos rfl]
theorem upd_ne {H : Hp} {a b : Addr} {o : HO} (h : b ≠ a) : upd H a o b = H b := by unfold upd; rw [if_neg h]
theorem upd_upd {H : Hp} {a : Addr} {o u : HO} : upd (upd H a o) a u = upd H a u := by
  funext b; unfold upd; split <;> rfl
theorem ne_of_none {H : Hp} {a b : Addr} {o : HO} (h : H a = some o) (h' : H b = none) : a ≠ b := by
  intro e; subst e; rw [h] at h'; cases h'

section
variable (P : Program) (w : World)
noncomputable def ObjOk (H : Hp) (h : Heap) (a : Addr) : HO → Prop
  | .lst xs => xs.length ≤ sizeLine ∧ ∃ (its : List Value) (n : Nat), Vals xs its ∧ h.get? a = some { cls := .type "list", data := .seq its.toArray n }
  | .tup xs => xs.length ≤ sizeLine ∧ ∃ its : List Value, Vals xs its ∧ IsTup h a its.toArray
  | .dK kvs => kvs.length ≤ sizeLine ∧ (a == sysModules) = false ∧ ∃ vs, KV kvs vs ∧ h.DictOf (mixKind P w) a vs
  | .dT kvs => kvs.length ≤ sizeLine ∧ (a == sysModules) = false ∧ ∃ xs : List (List Key × Addr × Value),
      Paired (fun (p : List Key × V) (q : List Key × Addr × Value) => p.1 = q.1 ∧ H q.2.1 = some (.tup (p.1.map kV)) ∧ RelV p.2 q.2.2) kvs xs ∧
      ∃ o es ep, h.get? a = some o ∧ o.ExactDict ∧ o.data = .dict es ep ∧ es.toList = xs.map (entryOfKey (tupleKind (mixKind P w))) ∧ (xs.map (·.1)).Nodup
  | .set S n => h.SetOf (intKind P w) a S n
  | .ins C dx fs => H dx = some (.own a) ∧ fs.length ≤ 1000 ∧ dx ≠ a ∧ h.get? a = some (PySem.W.instObj C dx) ∧
      ∃ mA, h.Ns1 dx mA ∧ (∀ f, RelO (fs.lookup f) (mA f)) ∧ PySem.Within mA (fs.map (·.1))
  | .own _ => ∃ o, h.get? a = some o
  | .xd fs => ∃ mA, h.Ns1 a mA ∧ ∀ f, RelO (fs.lookup f) (mA f)
  | .rng lo hi => ∃ t u v, h.get? a = some { cls := .type "range", data := .fields #[.int lo t, .int hi u, .int 1 v] }
  | .frz o u => h.get? a = some o ∧ ObjOk H h a u
  | .tbl ps => h.get? a = some { cls := .none, data := .fields ps }
  | .met f x => h.get? a = some (PySem.W.methodObj (.ref f) (.ref x))
  | .ext φ => φ h ∧ (∃ o, h.get? a = some o) ∧ ∀ h1 h2 : Heap, φ h1 → (∀ o, h1.get? a = some o → h2.get? a = some o) → φ h2
/-- the abstract heap is held -/
noncomputable def HOk (H : Hp) (h : Heap) : Prop := ∀ a o, H a = some o → ObjOk P w H h a o
end

section
variable {P : Program} {w : World} {H H' : Hp} {h h' : Heap} {a : Addr} {o : HO}
theorem ObjOk.lt (x : ObjOk P w H h a o) : a < h.objs.size := by
  cases o with
  | lst xs => obtain ⟨_, _, _, _, e⟩ := x; exact Heap.lt_size e
  | tup xs => obtain ⟨_, _, _, p⟩ := x; exact p.lt
  | dK kvs => obtain ⟨_, _, _, _, o, _, _, e, _⟩ := x; exact Heap.lt_size e
  | dT kvs => obtain ⟨_, _, _, _, o, _, _, e, _⟩ := x; exact Heap.lt_size e
  | set S n => obtain ⟨o, _, _, _, e, _⟩ := x; exact Heap.lt_size e
  | ins C dx fs => obtain ⟨_, _, _, e, _⟩ := x; exact Heap.lt_size e
  | own y => obtain ⟨_, e⟩ := x; exact Heap.lt_size e
  | xd fs => obtain ⟨_, ⟨_, _, _, e, _⟩, _⟩ := x; exact Heap.lt_size e
  | rng lo hi => obtain ⟨_, _, _, e⟩ := x; exact Heap.lt_size e
  | frz ob u => obtain ⟨e, _⟩ := x; exact Heap.lt_size e
  | tbl ps => exact Heap.lt_size (show h.get? a = some _ from x)
  | met f y => exact Heap.lt_size (show h.get? a = some _ from x)
  | ext φ => obtain ⟨_, ⟨_, e⟩, _⟩ := x; exact Heap.lt_size e
theorem Paired.mapP {α β : Type} {F G : α → β → Prop} : ∀ {l₁ : List α} {l₂ : List β}, Paired F l₁ l₂ → (∀ a b, F a b → G a b) → Paired G l₁ l₂
  | _, _, .nil, _ => .nil
  | _, _, .cons r t, f => .cons (f _ _ r) (Paired.mapP t f)
/-- what an object's description leans on: its own object, its own dict, the tuples -/
theorem ObjOk.stay (x : ObjOk P w H h a o) (k : ∀ b u, (b = a ∨ H b = some (.own a)) → h.get? b = some u → h'.get? b = some u)
    (ho : ∀ b, H b = some (.own a) → H' b = some (.own a)) (ht : ∀ b xs, H b = some (.tup xs) → H' b = some (.tup xs)) : ObjOk P w H' h' a o := by
  induction o with
  | lst xs => obtain ⟨z, its, n, r, e⟩ := x; exact ⟨z, its, n, r, k _ _ (.inl rfl) e⟩
  | tup xs => obtain ⟨z, its, r, ob, e, c⟩ := x; exact ⟨z, its, r, ob, k _ _ (.inl rfl) e, c⟩
  | dK kvs => obtain ⟨z, y, vs, r, ob, es, ep, e, c⟩ := x; exact ⟨z, y, vs, r, ob, es, ep, k _ _ (.inl rfl) e, c⟩
  | dT kvs =>
    obtain ⟨z, y, xs, r, ob, es, ep, e, c⟩ := x
    exact ⟨z, y, xs, Paired.mapP r fun p q z => ⟨z.1, ht _ _ z.2.1, z.2.2⟩, ob, es, ep, k _ _ (.inl rfl) e, c⟩
  | set S n => obtain ⟨ob, es, ep, t, e, c⟩ := x; exact ⟨ob, es, ep, t, k _ _ (.inl rfl) e, c⟩
  | ins C dx fs =>
    obtain ⟨d, z, ne, e, mA, ⟨od, es, ep, e2, c⟩, r⟩ := x
    exact ⟨ho _ d, z, ne, k _ _ (.inl rfl) e, mA, ⟨od, es, ep, k _ _ (.inr d) e2, c⟩, r⟩
  | own y => obtain ⟨ob, e⟩ := x; exact ⟨ob, k _ _ (.inl rfl) e⟩
  | xd fs => obtain ⟨mA, ⟨od, es, ep, e, c⟩, r⟩ := x; exact ⟨mA, ⟨od, es, ep, k _ _ (.inl rfl) e, c⟩, r⟩
  | rng lo hi => obtain ⟨t, u, v, e⟩ := x; exact ⟨t, u, v, k _ _ (.inl rfl) e⟩
  | frz ob u ih => obtain ⟨e, q⟩ := x; exact ⟨k _ _ (.inl rfl) e, ih q⟩
  | tbl ps =>
    have e : h.get? a = some { cls := .none, data := .fields ps } := x
    show h'.get? a = some { cls := .none, data := .fields ps }
    exact k a _ (.inl rfl) e
  | met f y =>
    have e : h.get? a = some (PySem.W.methodObj (.ref f) (.ref y)) := x
    show h'.get? a = some (PySem.W.methodObj (.ref f) (.ref y))
    exact k a _ (.inl rfl) e
  | ext φ => obtain ⟨p, ⟨o, e⟩, st⟩ := x; exact ⟨st _ _ p fun o q => k _ _ (.inl rfl) q, ⟨o, k _ _ (.inl rfl) e⟩, st⟩
theorem HOk.lt (x : HOk P w H h) (e : H a = some o) : a < h.objs.size := (x a o e).lt
theorem HOk.fresh (x : HOk P w H h) (e : h.objs.size ≤ a) : H a = none := by
  cases q : H a with
  | none => rfl
  | some u => exact absurd (Nat.lt_of_lt_of_le (x.lt q) e) (Nat.lt_irrefl _)
/-- every object of the heap is kept -/
theorem HOk.kept (x : HOk P w H h) (k : ∀ b u, h.get? b = some u → h'.get? b = some u) : HOk P w H h' := fun a o e =>
  (x a o e).stay (fun b u _ q => k b u q) (fun _ q => q) fun _ _ q => q
/-- a new object is laid and tracked -/
theorem HOk.laid (x : HOk P w H h) (k : ∀ b u, h.get? b = some u → h'.get? b = some u) (hp : h.objs.size ≤ a) (new : ObjOk P w (upd H a o) h' a o) : HOk P w (upd H a o) h' := fun b u e => by
  have hn := x.fresh hp
  by_cases hb : b = a
  · subst hb; rw [upd_same] at e; cases e; exact new
  · rw [upd_ne hb] at e
    exact (x b u e).stay (fun c v _ q => k c v q) (fun c q => by rw [upd_ne (ne_of_none q hn)]; exact q) fun c xs q => by rw [upd_ne (ne_of_none q hn)]; exact q
end

/-- what may be read as u: it is u, or a known u -/
noncomputable def Rd (H : Hp) (a : Addr) (u : HO) : Prop := H a = some u ∨ ∃ o, H a = some (.frz o u)
theorem Rd.ok {P : Program} {w : World} {H : Hp} {h : Heap} {a : Addr} {u : HO} (r : Rd H a u) (x : HOk P w H h) : ObjOk P w H h a u := by
  rcases r with r | ⟨o, r⟩
  · exact x a u r
  · obtain ⟨_, q⟩ := x a _ r
    exact q
/-- what may be written -/
noncomputable def Mut : Option HO → Prop
  | some (.lst _) => True
  | some (.dK _) => True
  | some (.dT _) => True
  | some (.set _ _) => True
  | some (.ins _ _ _) => True
  | some (.ext _) => True
  | _ => False
section
variable {P : Program} {w : World} {H : Hp} {h h' : Heap} {x e : Addr} {o' : HO}
/-- the object at e is changed: x itself, or the dict of the instance x -/
theorem HOk.write (ok : HOk P w H h) (mu : Mut (H x)) (he : e = x ∨ H e = some (.own x)) (k : ∀ b u, b ≠ e → h.get? b = some u → h'.get? b = some u) (heo : ∃ u, h'.get? e = some u)
    (new : ObjOk P w (upd H x o') h' x o') : HOk P w (upd H x o') h' := fun b u q => by
  have nown : ∀ c y, H c = some (.own y) → c ≠ x := fun c y r z => by subst z; rw [r] at mu; exact mu
  have ntup : ∀ c xs, H c = some (.tup xs) → c ≠ x := fun c xs r z => by subst z; rw [r] at mu; exact mu
  by_cases hb : b = x
  · subst hb; rw [upd_same] at q; cases q; exact new
  · rw [upd_ne hb] at q
    by_cases hbe : b = e
    · have q' : H b = some (.own x) := by
        rcases he with z | z
        · exact absurd (hbe.trans z) hb
        · rw [hbe]; exact z
      rw [q] at q'; cases q'
      obtain ⟨v, hv⟩ := heo
      exact ⟨v, by rw [hbe]; exact hv⟩
    · refine (ok b u q).stay (fun c v hc r => k c v ?_ r) (fun c r => by rw [upd_ne (nown c b r)]; exact r) fun c xs r => by rw [upd_ne (ntup c xs r)]; exact r
      rcases hc with rfl | hc
      · exact hbe
      · rintro rfl
        rcases he with z | z
        · exact nown c b hc z
        · rw [hc] at z; cases z; exact hb rfl
end

/-! ### kept unless tracked; of the frames at fs (the callers') the slots may change (an exception that passes writes there); of the records at ex (iterators) nothing is said -/
structure Un (fs ex : List Addr) (H H' : Hp) (h h' : Heap) : Prop where
  keep : ∀ b o, h.get? b = some o → H b = none → b ∉ fs → b ∉ ex → h'.get? b = some o
  slot : ∀ b o, h.get? b = some o → H b = none → b ∈ fs → b ∉ ex → ∃ sl, h'.get? b = some { o with slots := sl }
  free : ∀ b o, h.get? b = some o → H b = none → b ∉ ex → H' b = none
  there : ∀ b o, h.get? b = some o → b ∉ ex → ∃ o', h'.get? b = some o'
  tups : ∀ b xs, H b = some (.tup xs) → H' b = some (.tup xs)
  frzs : ∀ b o u, H b = some (.frz o u) → H' b = some (.frz o u)
  tbls : ∀ b ps, H b = some (.tbl ps) → ∃ more, H' b = some (.tbl (ps ++ more))
section
variable {fs fs' ex ex' : List Addr} {H H1 H2 : Hp} {h h1 h2 h' : Heap} {a x e : Addr} {o : HO}
theorem Un.any (u : Un fs ex H H1 h h1) {b : Addr} {ob : Obj} (q : h.get? b = some ob) (n : H b = none) (hx : b ∉ ex) : ∃ sl, h1.get? b = some { ob with slots := sl } := by
  by_cases hb : b ∈ fs
  · exact u.slot b ob q n hb hx
  · exact ⟨ob.slots, u.keep b ob q n hb hx⟩
theorem Un.kept (k : ∀ b u, h.get? b = some u → h'.get? b = some u) : Un fs ex H H h h' :=
  ⟨fun b ob q _ _ _ => k b ob q, fun b ob q _ _ _ => ⟨ob.slots, k b ob q⟩, fun _ _ _ n _ => n, fun b ob q _ => ⟨ob, k b ob q⟩, fun _ _ q => q, fun _ _ _ q => q, fun _ ps q => ⟨#[], by rw [q]; simp⟩⟩
theorem Un.refl : Un fs ex H H h h := Un.kept fun _ _ q => q
theorem Un.laid (k : ∀ b u, h.get? b = some u → h'.get? b = some u) (hp : h.objs.size ≤ a) (hn : H a = none) : Un fs ex H (upd H a o) h h' where
  keep := fun b u q _ _ _ => k b u q
  slot := fun b u q _ _ _ => ⟨u.slots, k b u q⟩
  free := fun b u q n _ => by rw [upd_ne (Nat.ne_of_lt (Nat.lt_of_lt_of_le (Heap.lt_size q) hp))]; exact n
  there := fun b u q _ => ⟨u, k b u q⟩
  tups := fun b xs q => by rw [upd_ne (ne_of_none q hn)]; exact q
  frzs := fun b u xs q => by rw [upd_ne (ne_of_none q hn)]; exact q
  tbls := fun b ps q => ⟨#[], by rw [upd_ne (ne_of_none q hn), q]; simp⟩
theorem Un.write (mu : Mut (H x)) (he : e = x ∨ H e = some (.own x)) (k : ∀ b u, b ≠ e → h.get? b = some u → h'.get? b = some u) (heo : ∃ u, h'.get? e = some u) : Un fs ex H (upd H x o) h h' := by
  have hx : ∀ b, H b = none → b ≠ x := fun b n z => by subst z; rw [n] at mu; exact mu
  have hb : ∀ b, H b = none → b ≠ e := fun b n z => by
    subst z
    rcases he with r | r
    · exact hx b n r
    · rw [n] at r; cases r
  have hm : ∀ b u, H b = some u → ¬ Mut (some u) → b ≠ x := fun b u q nm z => by subst z; rw [q] at mu; exact nm mu
  refine ⟨fun b u q n _ _ => k b u (hb b n) q, fun b u q n _ _ => ⟨u.slots, k b u (hb b n) q⟩, fun b u q n _ => by rw [upd_ne (hx b n)]; exact n, fun b u q _ => ?_,
    fun b xs q => by rw [upd_ne (hm b _ q fun z => z)]; exact q, fun b u xs q => by rw [upd_ne (hm b _ q fun z => z)]; exact q, fun b ps q => ⟨#[], by rw [upd_ne (hm b _ q fun z => z), q]; simp⟩⟩
  by_cases hbe : b = e
  · subst hbe; exact heo
  · exact ⟨u, k b u hbe q⟩
end

/-! ### the heap without what is tracked -/
noncomputable def trk (h : Heap) (H : Hp) : List Addr := (List.range h.objs.size).filter fun a => (H a).isSome
noncomputable def hidT (h : Heap) (H : Hp) : Heap := PySem.W.hideAll h (trk h H)
theorem hidT_size (h : Heap) (H : Hp) : (hidT h H).objs.size = h.objs.size := PySem.W.hideAll_size _ _
theorem hidT_get {h : Heap} {H : Hp} {b : Addr} {o : Obj} (e : h.get? b = some o) (n : H b = none) : (hidT h H).get? b = some o :=
  PySem.W.hideAll_get _ e fun hm => by
    have q : (H b).isSome = true := (List.mem_filter.mp hm).2
    rw [n] at q; simp at q
theorem of_hidT {h : Heap} {H : Hp} {b : Addr} {o : Obj} (e : (hidT h H).get? b = some o) : h.get? b = some o ∧ H b = none := by
  have e' : h.get? b = some o := PySem.W.of_hideAll (trk h H) e
  refine ⟨e', ?_⟩
  cases q : H b with
  | none => rfl
  | some x =>
    have hm : b ∈ trk h H := List.mem_filter.mpr ⟨List.mem_range.mpr (Heap.lt_size e'), by simp [q]⟩
    have z : (hidT h H).get? b = none := PySem.W.hideAll_none (trk h H) hm
    rw [z] at e; cases e

/-! ### OpenK's ledger, filled with every new object but one -/
end L2

namespace L2
open PySem PySem.Spec PyProof.Rows

/-- the module's facts, over the base: the heap at the law's entry without what is tracked there -/
structure Mod (K : PySem.W.Frag) (mg : Str → Option Value) (base : Heap) : Prop where
  kin : K.In base
  glob : base.Ns mainGlobals mg
  blt : ∃ mb, base.Ns builtinsNs mb ∧ ∀ x : Str, x ≠ "__name__" → mb x = bootBuiltins x
  nolimit : base.NoLimit

/-- the context: a def's body (or a comprehension's block) running. base: fixed through the whole law; s₀, H₀: the entry; outer: the frames whose slots others may change (a def's callers); stack: all frames that run;
   ex: iterators that were made ahead of the entry and are walked here (a comprehension's); fn: the names whose cells were made at the entry (a def: all; a comprehension's block: its own); calm: not within an except suite; pn: pins that every state bears; xe: what is wanted of an exception that leaves the code -/
structure Cx where
  prog : Program
  w : World
  K : PySem.W.Frag
  mg : Str → Option Value
  base : Heap
  A : Around
  N : List Str
  s₀ : Shared
  H₀ : Hp
  env : Env
  outer : List Env
  stack : List Env
  ex : List Addr
  fn : Str → Bool
  calm : Bool
  pn : List (Addr × Obj)
  xe : Value → Shared → Prop
/-- the callers' frames -/
noncomputable def frs (l : List Env) : List Addr := l.filterMap (·.frame)
noncomputable abbrev Cx.fs (X : Cx) : List Addr := frs X.outer

noncomputable def Vis (sc : Scope) (x : Str) : Prop := sc.names.lookup x = some .local ∨ sc.names.lookup x = some .cell ∨ sc.names.lookup x = some .free
noncomputable def Loc (sc : Scope) (x : Str) : Prop := sc.names.lookup x = some .local ∨ sc.names.lookup x = some .cell
noncomputable def Look (env : Env) (h : Heap) (m : Str → Option Value) (x : Str) (u : Value) : Prop :=
  (env.kindOf x = some .local ∧ m x = some u) ∨ ((env.kindOf x = some .cell ∨ env.kindOf x = some .free) ∧ ∃ c, env.cells.lookup x = some c ∧ h.IsCell c (some u))

structure Cx.Ok (X : Cx) : Prop where
  mod : Mod X.K X.mg X.base
  kind : X.env.scope.kind = .function
  glob : X.env.globals = mainGlobals
  blt : X.env.builtins = builtinsNs
  above : X.s₀.heap.objs.size ≤ X.env.locals
  inj : ∀ x y c, X.env.cells.lookup x = some c → X.env.cells.lookup y = some c → x = y
  has : ∀ x, (X.env.kindOf x = some .cell ∨ X.env.kindOf x = some .free) → ∃ c, X.env.cells.lookup x = some c
  cab : ∀ x c, X.fn x = true → X.env.cells.lookup x = some c → X.s₀.heap.objs.size ≤ c
  hd : X.calm = true → X.A.handled = none
  frames : X.A.frames = some X.stack
  stk : X.stack = X.outer ∨ (X.stack = X.env :: X.outer ∧ X.env.frame = some X.env.locals)
  exf : ∀ b ∈ X.ex, b ≠ X.env.locals ∧ ∀ x c, X.env.cells.lookup x = some c → c ≠ b
  bs : ∀ b o, X.base.get? b = some o → X.s₀.heap.get? b = some o ∧ X.H₀ b = none
  bsz : X.base.objs.size ≤ X.s₀.heap.objs.size
  noex : ∀ b o, X.base.get? b = some o → b ∉ X.ex
  exfs : ∀ b ∈ X.ex, b ∉ X.fs
  funs : X.s₀.heap.FunFrames X.base X.outer
  frf : ∀ b ∈ X.fs, X.H₀ b = none

structure Inv (X : Cx) (pins : List (Addr × Obj)) (σ : List (Option V)) (H : Hp) (s : Shared) : Prop where
  ok : X.Ok
  os : s.os = X.s₀.os
  bare : AllBare s.gens
  base : Un X.fs X.ex X.H₀ H X.s₀.heap s.heap
  loc : ∃ m, s.heap.Ns X.env.locals m ∧ ∀ (i : Nat) (x : Str) (v : V), X.N[i]? = some x → σ[i]? = some (some v) → Vis X.env.scope x → ∃ u, RelV v u ∧ Look X.env s.heap m x u
  cell : ∀ x c, X.env.cells.lookup x = some c → ∃ v, s.heap.IsCell c v
  free : H X.env.locals = none
  freeC : ∀ x c, X.env.cells.lookup x = some c → H c = none
  pin : ∀ p ∈ X.pn ++ pins, s.heap.get? p.1 = some p.2 ∧ H p.1 = none ∧ p.1 ≠ X.env.locals ∧ p.1 ∉ X.fs ∧ ∀ v, p.2.data ≠ .cell v
  hok : HOk X.prog X.w H s.heap
  len : σ.length = X.N.length

section
variable {X : Cx} {pins : List (Addr × Obj)} {σ : List (Option V)} {H H' : Hp} {s : Shared} {h' : Heap}

theorem Cx.Ok.nofr (ok : X.Ok) {b : Addr} {o : Obj} (e : X.base.get? b = some o) : b ∉ X.fs := fun hb => by
  have := (ok.funs.mem hb).1
  rw [e] at this; cases this
theorem Inv.bs (I : Inv X pins σ H s) : ∀ b o, X.base.get? b = some o → s.heap.get? b = some o ∧ H b = none := fun b o e =>
  ⟨I.base.keep b o (I.ok.bs b o e).1 (I.ok.bs b o e).2 (I.ok.nofr e) (I.ok.noex b o e), I.base.free b o (I.ok.bs b o e).1 (I.ok.bs b o e).2 (I.ok.noex b o e)⟩
theorem Inv.bk (I : Inv X pins σ H s) : ∀ b o, X.base.get? b = some o → s.heap.get? b = some o := fun b o e => (I.bs b o e).1
theorem Inv.mod (I : Inv X pins σ H s) : Mod X.K X.mg X.base := I.ok.mod
theorem Inv.kIn (I : Inv X pins σ H s) : X.K.In s.heap := I.ok.mod.kin.keeps I.bk
theorem Inv.lt (I : Inv X pins σ H s) : X.env.locals < s.heap.objs.size := let ⟨_, hn, _⟩ := I.loc; hn.lt
theorem Inv.sz (I : Inv X pins σ H s) : X.s₀.heap.objs.size ≤ s.heap.objs.size := Nat.le_trans I.ok.above (Nat.le_of_lt I.lt)
theorem Inv.nofs (I : Inv X pins σ H s) {a : Addr} (h : s.heap.objs.size ≤ a) : a ∉ X.fs := fun hb => by
  obtain ⟨_, o, ho, _⟩ := I.ok.funs.mem hb
  exact absurd (Nat.lt_of_lt_of_le (Heap.lt_size ho) (Nat.le_trans I.sz h)) (Nat.lt_irrefl _)
theorem Inv.cne (I : Inv X pins σ H s) : ∀ x c, X.env.cells.lookup x = some c → c ≠ X.env.locals := fun x c e z => by
  obtain ⟨v, o, ho, hd⟩ := I.cell x c e
  obtain ⟨m, ⟨o', es, ep, ho', hd', _⟩, _⟩ := I.loc
  rw [z, ho'] at ho; cases ho; rw [hd'] at hd; cases hd
theorem Inv.funs (I : Inv X pins σ H s) : s.heap.FunFrames X.base X.outer := by
  have all : ∀ (l : List Env), (∀ b ∈ frs l, b ∈ X.fs) → X.s₀.heap.FunFrames X.base l → s.heap.FunFrames X.base l := by
    intro l
    induction l with
    | nil => intro _ _; trivial
    | cons env r ih =>
      intro hs hl
      obtain ⟨hk, ⟨L, o, hf, hn, ho, hd⟩, hr⟩ := hl
      have hL : L ∈ X.fs := hs L (by unfold frs; rw [List.filterMap_cons, hf]; exact List.mem_cons_self)
      obtain ⟨sl, e⟩ := I.base.slot L o ho (I.ok.frf L hL) hL fun z => I.ok.exfs L z hL
      exact ⟨hk, ⟨L, _, hf, hn, e, hd⟩, ih (fun b hb => hs b (by unfold frs; rw [List.filterMap_cons, hf]; exact List.mem_cons_of_mem _ hb)) hr⟩
  exact all X.outer (fun _ hb => hb) I.ok.funs

/-- the frames that run, for a call -/
theorem Inv.stack (I : Inv X pins σ H s) : s.heap.FunFrames X.base X.stack := by
  rcases I.ok.stk with e | ⟨e, hf⟩
  · rw [e]; exact I.funs
  · rw [e]
    obtain ⟨m, hn, _⟩ := I.loc
    refine .cons (by rw [I.ok.kind]; decide) hf hn ?_ I.funs
    exact Heap.get?_none_of_le (Nat.le_trans I.ok.bsz I.ok.above)
theorem Inv.stkSub (I : Inv X pins σ H s) : ∀ b ∈ frs X.stack, b ∈ X.env.locals :: X.fs := fun b hb => by
  rcases I.ok.stk with e | ⟨e, hf⟩
  · rw [e] at hb; exact List.mem_cons_of_mem _ hb
  · rw [e] at hb
    unfold frs at hb
    rw [List.filterMap_cons, hf] at hb
    exact hb
theorem Inv.stkFree (I : Inv X pins σ H s) : ∀ b ∈ frs X.stack, H b = none := fun b hb => by
  rcases List.mem_cons.mp (I.stkSub b hb) with e | hb
  · rw [e]; exact I.free
  · obtain ⟨_, o, ho, _⟩ := I.ok.funs.mem hb
    exact I.base.free b o ho (I.ok.frf b hb) fun z => I.ok.exfs b z hb

/-- THE STEP: the untracked objects but the frame and the records at ch are kept (the callers' frames up to slots), the frame's map is kept, the new abstract heap is held -/
theorem Inv.step {g' : Array GenState} {t' : Nat} {d' : Drawn} {ch : List Addr} (I : Inv X pins σ H s)
    (hch : ∀ b ∈ ch, (b ∈ X.ex ∨ X.s₀.heap.objs.size ≤ b) ∧ b ≠ X.env.locals ∧ (∀ x c, X.env.cells.lookup x = some c → c ≠ b) ∧ ∀ p ∈ X.pn ++ pins, p.1 ≠ b)
    (keep : ∀ b o, b ≠ X.env.locals → b ∉ X.fs → b ∉ ch → s.heap.get? b = some o → H b = none → h'.get? b = some o)
    (slot : ∀ b o, b ≠ X.env.locals → b ∈ X.fs → b ∉ ch → s.heap.get? b = some o → H b = none → ∃ sl, h'.get? b = some { o with slots := sl }) (free : ∀ b o, b ∉ ch → s.heap.get? b = some o → H b = none → H' b = none)
    (there : ∀ b o, b ∉ ch → s.heap.get? b = some o → ∃ o', h'.get? b = some o')
    (tups : ∀ b xs, H b = some (.tup xs) → H' b = some (.tup xs)) (frzs : ∀ b o u, H b = some (.frz o u) → H' b = some (.frz o u)) (tbls : ∀ b ps, H b = some (.tbl ps) → ∃ more, H' b = some (.tbl (ps ++ more)))
    (ns : ∀ m, s.heap.Ns X.env.locals m → h'.Ns X.env.locals m) (hok : HOk X.prog X.w H' h') (hg : AllBare g') :
    Inv X pins σ H' { s with heap := h', gens := g', drawn := d', toks := t' } := by
  have neL : ∀ b o, X.s₀.heap.get? b = some o → b ≠ X.env.locals := fun b o e => Nat.ne_of_lt (Nat.lt_of_lt_of_le (Heap.lt_size e) I.ok.above)
  have neC : ∀ b o, X.s₀.heap.get? b = some o → b ∉ X.ex → b ∉ ch := fun b o e hx hb => by
    rcases (hch b hb).1 with z | z
    · exact hx z
    · exact absurd (Nat.lt_of_lt_of_le (Heap.lt_size e) z) (Nat.lt_irrefl _)
  have cellK : ∀ x c, X.env.cells.lookup x = some c → ∀ v, s.heap.IsCell c v → h'.IsCell c v := fun x c e v ⟨o, ho, hd⟩ => by
    have nch : c ∉ ch := fun z => (hch c z).2.2.1 x c e rfl
    by_cases hc : c ∈ X.fs
    · obtain ⟨sl, q⟩ := slot c o (I.cne x c e) hc nch ho (I.freeC x c e)
      exact ⟨_, q, hd⟩
    · exact ⟨o, keep c o (I.cne x c e) hc nch ho (I.freeC x c e), hd⟩
  refine ⟨I.ok, I.os, hg, ⟨fun b o e n hb hx => ?_, fun b o e n hb hx => ?_, fun b o e n hx => ?_, fun b o e hx => ?_, fun b xs e => tups b xs (I.base.tups b xs e), fun b o xs e => frzs b o xs (I.base.frzs b o xs e), fun b ps e => ?_⟩, ?_, fun x c e => ?_, ?_, fun x c e => ?_, fun p hp => ?_, hok, I.len⟩
  · exact keep b o (neL b o e) hb (neC b o e hx) (I.base.keep b o e n hb hx) (I.base.free b o e n hx)
  · obtain ⟨sl, e1⟩ := I.base.slot b o e n hb hx
    obtain ⟨sl', e2⟩ := slot b _ (neL b o e) hb (neC b o e hx) e1 (I.base.free b o e n hx)
    exact ⟨sl', e2⟩
  · obtain ⟨o', e1⟩ := I.base.there b o e hx
    exact free b o' (neC b o e hx) e1 (I.base.free b o e n hx)
  · obtain ⟨o', e1⟩ := I.base.there b o e hx
    exact there b o' (neC b o e hx) e1
  · obtain ⟨m1, e1⟩ := I.base.tbls b ps e
    obtain ⟨m2, e2⟩ := tbls b _ e1
    exact ⟨m1 ++ m2, by rw [e2, Array.append_assoc]⟩
  · obtain ⟨m, hn, hl⟩ := I.loc
    refine ⟨m, ns m hn, fun i x v e1 e2 e3 => ?_⟩
    obtain ⟨u, r, l⟩ := hl i x v e1 e2 e3
    refine ⟨u, r, ?_⟩
    rcases l with l | ⟨k, c, e, z⟩
    · exact .inl l
    · exact .inr ⟨k, c, e, cellK x c e _ z⟩
  · obtain ⟨v, z⟩ := I.cell x c e
    exact ⟨v, cellK x c e v z⟩
  · obtain ⟨m, ⟨o, _, _, ho, _⟩, _⟩ := I.loc
    exact free _ o (fun z => (hch _ z).2.1 rfl) ho I.free
  · obtain ⟨v, o, ho, hd⟩ := I.cell x c e
    exact free c o (fun z => (hch c z).2.2.1 x c e rfl) ho (I.freeC x c e)
  · obtain ⟨e, n, ne, nf, d⟩ := I.pin p hp
    have nch : p.1 ∉ ch := fun z => (hch p.1 z).2.2.2 p hp rfl
    exact ⟨keep p.1 p.2 ne nf nch e n, free p.1 p.2 nch e n, ne, nf, d⟩
/-- .. where the frame's own object is kept too -/
theorem Inv.un {t' : Nat} (I : Inv X pins σ H s) (u : Un X.fs [] H H' s.heap h') (hok : HOk X.prog X.w H' h') : Inv X pins σ H' { s with heap := h', toks := t' } := by
  obtain ⟨m, ⟨o, es, ep, ho, r⟩, _⟩ := id I.loc
  obtain ⟨sl, hL⟩ := u.any ho I.free (by simp)
  exact I.step (g' := s.gens) (d' := s.drawn) (ch := []) (fun _ z => nomatch z) (fun b o _ hb _ e n => u.keep b o e n hb (by simp)) (fun b o _ hb _ e n => u.slot b o e n hb (by simp)) (fun b o _ e n => u.free b o e n (by simp)) (fun b o _ e => u.there b o e (by simp)) u.tups u.frzs u.tbls (fun m' hm => by
    obtain ⟨o', es', ep', ho', r'⟩ := hm
    rw [ho] at ho'; cases ho'
    exact ⟨_, es', ep', hL, r'⟩) hok I.bare
/-- behind a call (or a comprehension's block): the slots of this frame may have changed too, the records at ch may have turned -/
theorem Inv.call {g' : Array GenState} {t' : Nat} {d' : Drawn} {ch : List Addr} (I : Inv X pins σ H s) (u : Un (frs X.stack) ch H H' s.heap h') (hok : HOk X.prog X.w H' h') (hg : AllBare g')
    (hch : ∀ b ∈ ch, (b ∈ X.ex ∨ X.s₀.heap.objs.size ≤ b) ∧ b ≠ X.env.locals ∧ (∀ x c, X.env.cells.lookup x = some c → c ≠ b) ∧ ∀ p ∈ X.pn ++ pins, p.1 ≠ b) :
    Inv X pins σ H' { s with heap := h', gens := g', drawn := d', toks := t' } := by
  obtain ⟨m, ⟨o, es, ep, ho, r⟩, _⟩ := id I.loc
  obtain ⟨sl, hL⟩ := u.any ho I.free fun z => (hch _ z).2.1 rfl
  exact I.step (ch := ch) hch (fun b o hL hb hc e n => u.keep b o e n (fun z => (List.mem_cons.mp (I.stkSub b z)).elim hL hb) hc) (fun b o _ _ hc e n => u.any e n hc) (fun b o hc e n => u.free b o e n hc) (fun b o hc e => u.there b o e hc) u.tups u.frzs u.tbls (fun m' hm => by
    obtain ⟨o', es', ep', ho', r'⟩ := hm
    rw [ho] at ho'; cases ho'
    exact ⟨_, es', ep', hL, r'⟩) hok hg
/-- an untracked record of ours (an iterator) has turned -/
theorem Inv.turned {t' : Nat} {it : Addr} (I : Inv X pins σ H s) (k : ∀ b o, b ≠ it → s.heap.get? b = some o → h'.get? b = some o) (hn : H it = none) (hL : it ≠ X.env.locals)
    (h1 : it ∈ X.ex ∨ X.s₀.heap.objs.size ≤ it) (h2 : ∀ x c, X.env.cells.lookup x = some c → c ≠ it) (h3 : ∀ p ∈ X.pn ++ pins, p.1 ≠ it) : Inv X pins σ H { s with heap := h', toks := t' } := by
  have nit : ∀ b u, H b = some u → b ≠ it := fun b u e z => by rw [z, hn] at e; cases e
  refine I.step (g' := s.gens) (d' := s.drawn) (ch := [it]) (fun b hb => ?_) (fun b o _ _ hc e _ => k b o (fun z => hc (by simp [z])) e) (fun b o _ _ hc e _ => ⟨o.slots, k b o (fun z => hc (by simp [z])) e⟩) (fun _ _ _ _ n => n)
    (fun b o hc e => ⟨o, k b o (fun z => hc (by simp [z])) e⟩) (fun _ _ e => e) (fun _ _ _ e => e) (fun b ps e => ⟨#[], by rw [e]; simp⟩) (fun m hm => ?_) (fun b u e => ?_) I.bare
  · have e : b = it := by simpa using hb
    subst e
    exact ⟨h1, hL, h2, h3⟩
  · obtain ⟨o, es, ep, ho, r⟩ := hm
    exact ⟨o, es, ep, k _ o (Ne.symm hL) ho, r⟩
  · refine (I.hok b u e).stay (fun c v hc q => k c v ?_ q) (fun _ q => q) fun _ _ q => q
    rcases hc with z | z
    · rw [z]; exact nit b u e
    · exact nit c _ z
theorem Inv.tok (I : Inv X pins σ H s) (t : Nat) : Inv X pins σ H { s with toks := t } := I.un (h' := s.heap) (t' := t) Un.refl I.hok
/-- all objects kept -/
theorem Inv.kept {t' : Nat} (I : Inv X pins σ H s) (k : ∀ b u, s.heap.get? b = some u → h'.get? b = some u) : Inv X pins σ H { s with heap := h', toks := t' } := I.un (Un.kept k) (I.hok.kept k)
/-- a new object laid and tracked -/
theorem Inv.laid {a : Addr} {o : HO} {t' : Nat} (I : Inv X pins σ H s) (k : ∀ b u, s.heap.get? b = some u → h'.get? b = some u) (hp : s.heap.objs.size ≤ a) (new : ObjOk X.prog X.w (upd H a o) h' a o) :
    Inv X pins σ (upd H a o) { s with heap := h', toks := t' } := I.un (Un.laid k hp (I.hok.fresh hp)) (I.hok.laid k hp new)
/-- an object written -/
theorem Inv.write {x e : Addr} {o : HO} {t' : Nat} (I : Inv X pins σ H s) (mu : Mut (H x)) (he : e = x ∨ H e = some (.own x)) (k : ∀ b u, b ≠ e → s.heap.get? b = some u → h'.get? b = some u) (heo : ∃ u, h'.get? e = some u)
    (new : ObjOk X.prog X.w (upd H x o) h' x o) : Inv X pins σ (upd H x o) { s with heap := h', toks := t' } := I.un (Un.write mu he k heo) (I.hok.write mu he k heo new)
theorem Inv.pins_of {pins' : List (Addr × Obj)} (I : Inv X pins σ H s) (h : ∀ p ∈ pins', s.heap.get? p.1 = some p.2 ∧ H p.1 = none ∧ p.1 ≠ X.env.locals ∧ p.1 ∉ X.fs ∧ ∀ v, p.2.data ≠ .cell v) : Inv X pins' σ H s :=
  ⟨I.ok, I.os, I.bare, I.base, I.loc, I.cell, I.free, I.freeC, fun p hp => (List.mem_append.mp hp).elim (fun z => I.pin p (List.mem_append_left _ z)) (h p), I.hok, I.len⟩

theorem nodup_ix {N : List Str} (hN : N.Nodup) {i j : Nat} {x : Str} (a : N[i]? = some x) (b : N[j]? = some x) : i = j := by
  obtain ⟨h1, e1⟩ := List.getElem?_eq_some_iff.mp a
  obtain ⟨h2, e2⟩ := List.getElem?_eq_some_iff.mp b
  exact (List.getElem_inj hN).mp (e1.trans e2.symm)

/-- a name is stored; what changed -/
theorem store_ok2 {M : Model} {A : Around} {E : Value → Shared → Prop} {i : Nat} {x : Str} {v : V} {u : Value} {Q : Unit → Shared → Prop} (I : Inv X pins σ H s) (hN : X.N.Nodup) (hi : X.N[i]? = some x) (hx : Loc X.env.scope x) (r : RelV v u)
    (h : ∀ s', Inv X pins (σ.set i (some v)) H s' → (∃ a, Heap.SameBut a s.heap s'.heap ∧ (a = X.env.locals ∨ X.env.cells.lookup x = some a)) → Q () s') (hf : X.fn x = true ∨ X.env.scope.names.lookup x = some .local := by first | exact .inl rfl | exact .inr rfl | assumption) : wpAny M A (storeName X.env x u) Q E s := by
  obtain ⟨m, hn, hl⟩ := id I.loc
  have hcls : (X.env.scope.kind == .class || (X.env.scope.kind == .module && X.env.locals != X.env.globals)) = false := by rw [I.ok.kind]; rfl
  have hiσ : i < σ.length := by rw [I.len]; exact (List.getElem?_eq_some_iff.mp hi).1
  have cne := I.cne
  have tracked : ∀ {a : Addr} {h' : Heap}, (∃ o, s.heap.get? a = some o ∧ H a = none) → Heap.SameBut a s.heap h' → HOk X.prog X.w H h' := fun {a h'} ha hs b ob e => by
    obtain ⟨_, _, hfree⟩ := ha
    refine (I.hok b ob e).stay (fun c w' hc q => (hs.2 c ?_).trans q) (fun _ q => q) fun _ _ q => q
    rintro rfl
    rcases hc with rfl | hc
    · rw [hfree] at e; cases e
    · rw [hfree] at hc; cases hc
  rcases hx with hk | hk
  · refine wpAny_storeName_local hk hn (fun h' hn' hs => ?_) hcls
    obtain ⟨oL, _, _, hoL, _⟩ := id hn
    refine h _ ⟨I.ok, I.os, I.bare, ⟨fun b o e n hb hx => ?_, fun b o e n hb hx => ?_, I.base.free, fun b o e hx => ?_, I.base.tups, I.base.frzs, I.base.tbls⟩, ⟨_, hn', fun j y v' e1 e2 e3 => ?_⟩, fun y c e => ?_, I.free, I.freeC, fun p hp => ?_, tracked ⟨oL, hoL, I.free⟩ hs, by simpa using I.len⟩ ⟨_, hs, .inl rfl⟩
    · exact (hs.2 b (Nat.ne_of_lt (Nat.lt_of_lt_of_le (Heap.lt_size e) I.ok.above))).trans (I.base.keep b o e n hb hx)
    · obtain ⟨sl, e1⟩ := I.base.slot b o e n hb hx
      exact ⟨sl, (hs.2 b (Nat.ne_of_lt (Nat.lt_of_lt_of_le (Heap.lt_size e) I.ok.above))).trans e1⟩
    · obtain ⟨o', e1⟩ := I.base.there b o e hx
      exact ⟨o', (hs.2 b (Nat.ne_of_lt (Nat.lt_of_lt_of_le (Heap.lt_size e) I.ok.above))).trans e1⟩
    · by_cases hj : j = i
      · subst hj
        rw [hi] at e1; cases e1
        rw [List.getElem?_set_self hiσ] at e2
        cases e2
        exact ⟨u, r, .inl ⟨hk, by simp⟩⟩
      · rw [List.getElem?_set_ne (Ne.symm hj)] at e2
        obtain ⟨u', r', q⟩ := hl j y v' e1 e2 e3
        refine ⟨u', r', ?_⟩
        rcases q with ⟨k, e⟩ | ⟨k, c, e, z⟩
        · refine .inl ⟨k, ?_⟩
          have : y ≠ x := fun e => hj (nodup_ix hN e1 (e ▸ hi))
          simp [this, e]
        · exact .inr ⟨k, c, e, z.sameBut hs (cne y c e)⟩
    · obtain ⟨w', z⟩ := I.cell y c e
      exact ⟨w', z.sameBut hs (cne y c e)⟩
    · obtain ⟨e, n, ne, nf, d⟩ := I.pin p hp
      exact ⟨(hs.2 p.1 ne).trans e, n, ne, nf, d⟩
  · have hfn : X.fn x = true := by
      rcases hf with z | z
      · exact z
      · rw [z] at hk; cases hk
    obtain ⟨c, hc⟩ := I.ok.has x (.inl hk)
    obtain ⟨w', z⟩ := I.cell x c hc
    refine wpAny_storeName_cell I.ok.kind hk hc z (fun h' hc' hs => ?_)
    obtain ⟨oc, hoc, hocd⟩ := id z
    refine h { s with heap := h' } ⟨I.ok, I.os, I.bare, ⟨fun b o e n hb hx => ?_, fun b o e n hb hx => ?_, I.base.free, fun b o e hx => ?_, I.base.tups, I.base.frzs, I.base.tbls⟩, ⟨m, hn.sameBut hs (Ne.symm (cne x c hc)), fun j y v' e1 e2 e3 => ?_⟩, fun y c' e => ?_, I.free, I.freeC, fun p hp => ?_, tracked ⟨oc, hoc, I.freeC x c hc⟩ hs, by simpa using I.len⟩ ⟨c, hs, .inr hc⟩
    · exact (hs.2 b (Nat.ne_of_lt (Nat.lt_of_lt_of_le (Heap.lt_size e) (I.ok.cab x c hfn hc)))).trans (I.base.keep b o e n hb hx)
    · obtain ⟨sl, e1⟩ := I.base.slot b o e n hb hx
      exact ⟨sl, (hs.2 b (Nat.ne_of_lt (Nat.lt_of_lt_of_le (Heap.lt_size e) (I.ok.cab x c hfn hc)))).trans e1⟩
    · obtain ⟨o', e1⟩ := I.base.there b o e hx
      exact ⟨o', (hs.2 b (Nat.ne_of_lt (Nat.lt_of_lt_of_le (Heap.lt_size e) (I.ok.cab x c hfn hc)))).trans e1⟩
    · by_cases hj : j = i
      · subst hj
        rw [hi] at e1; cases e1
        rw [List.getElem?_set_self hiσ] at e2
        cases e2
        exact ⟨u, r, .inr ⟨.inl hk, c, hc, hc'⟩⟩
      · rw [List.getElem?_set_ne (Ne.symm hj)] at e2
        obtain ⟨u', r', q⟩ := hl j y v' e1 e2 e3
        refine ⟨u', r', ?_⟩
        rcases q with q | ⟨k, c', e, z'⟩
        · exact .inl q
        · refine .inr ⟨k, c', e, z'.sameBut hs ?_⟩
          rintro rfl
          exact hj (nodup_ix hN e1 (I.ok.inj _ _ _ e hc ▸ hi))
    · by_cases hcc : c' = c
      · subst hcc; exact ⟨_, hc'⟩
      · obtain ⟨w2, z2⟩ := I.cell y c' e
        exact ⟨w2, z2.sameBut hs hcc⟩
    · obtain ⟨e, n, ne, nf, d⟩ := I.pin p hp
      refine ⟨(hs.2 p.1 ?_).trans e, n, ne, nf, d⟩
      intro q
      rw [q, hoc] at e
      have q' : oc = p.2 := Option.some.inj e
      exact d w' (by rw [← q']; exact hocd)
theorem store_ok {M : Model} {A : Around} {E : Value → Shared → Prop} {i : Nat} {x : Str} {v : V} {u : Value} {Q : Unit → Shared → Prop} (I : Inv X pins σ H s) (hN : X.N.Nodup) (hi : X.N[i]? = some x) (hx : Loc X.env.scope x) (r : RelV v u)
    (h : ∀ s', Inv X pins (σ.set i (some v)) H s' → Q () s') (hf : X.fn x = true ∨ X.env.scope.names.lookup x = some .local := by first | exact .inl rfl | exact .inr rfl | assumption) : wpAny M A (storeName X.env x u) Q E s :=
  store_ok2 I hN hi hx r (fun s' I' _ => h s' I') hf
/-- behind a call or a block, the state as it is -/
theorem Inv.call' {s' : Shared} {ch : List Addr} (I : Inv X pins σ H s) (ho : s'.os = s.os) (u : Un (frs X.stack) ch H H' s.heap s'.heap) (hok : HOk X.prog X.w H' s'.heap) (hg : AllBare s'.gens)
    (hch : ∀ b ∈ ch, (b ∈ X.ex ∨ X.s₀.heap.objs.size ≤ b) ∧ b ≠ X.env.locals ∧ (∀ x c, X.env.cells.lookup x = some c → c ≠ b) ∧ ∀ p ∈ X.pn ++ pins, p.1 ≠ b) : Inv X pins σ H' s' := by
  obtain ⟨h', g', d', t', o'⟩ := s'
  have e : o' = s.os := ho
  subst e
  exact I.call (g' := g') (t' := t') (d' := d') u hok hg hch
end

/-! ### the judgements -/
/-- an exception: its class, its own dict's address (where it has one), the abstract heap behind it -/
noncomputable abbrev XK := Value → Option Addr → Hp → Prop
noncomputable abbrev St := List (Option V)
noncomputable abbrev VK := V → Hp → Prop
/-- an expression's reading; a test's; an argument list's -/
noncomputable abbrev TE := St → Hp → VK → Prop
noncomputable abbrev TT := St → Hp → (Bool → Hp → Prop) → Prop
noncomputable abbrev TA := St → Hp → (List V → Hp → Prop) → Prop
/-- what is wanted behind a statement -/
structure Ends where
  nx : St → Hp → Prop
  rt : VK
  bk : St → Hp → Prop := fun _ _ => False
  ct : St → Hp → Prop := fun _ _ => False
noncomputable abbrev TS := Ends → St → Hp → Prop

noncomputable def EP (X : Cx) (pins : List (Addr × Obj)) (σ : St) (Q : VK) (u : Value) (s' : Shared) : Prop := ∃ v H', Inv X pins σ H' s' ∧ RelV v u ∧ Q v H'
noncomputable def TP (X : Cx) (pins : List (Addr × Obj)) (σ : St) (Q : Bool → Hp → Prop) (b : Bool) (s' : Shared) : Prop := ∃ H', Inv X pins σ H' s' ∧ Q b H'
noncomputable def AP (X : Cx) (pins : List (Addr × Obj)) (σ : St) (Q : List V → Hp → Prop) (us : List Value) (s' : Shared) : Prop := ∃ vs H', Inv X pins σ H' s' ∧ Vals vs us ∧ Q vs H'
noncomputable def SP (X : Cx) (pins : List (Addr × Obj)) (D : Ends) (f : Flow) (s' : Shared) : Prop :=
  match f with
  | .next => ∃ σ' H', Inv X pins σ' H' s' ∧ D.nx σ' H'
  | .brk => ∃ σ' H', Inv X pins σ' H' s' ∧ D.bk σ' H'
  | .cont => ∃ σ' H', Inv X pins σ' H' s' ∧ D.ct σ' H'
  | .ret u => ∃ v σ' H', Inv X pins σ' H' s' ∧ RelV v u ∧ D.rt v H'

noncomputable def PE (X : Cx) (e : Expr) (t : TE) : Prop :=
  ∀ (pins : List (Addr × Obj)) (s : Shared) (σ : St) (H : Hp) (Q : VK), Inv X pins σ H s → t σ H Q → wpAny (model X.prog X.w) X.A (eval e X.env) (EP X pins σ Q) X.xe s
noncomputable def PT (X : Cx) (e : Expr) (t : TT) : Prop :=
  ∀ (pins : List (Addr × Obj)) (s : Shared) (σ : St) (H : Hp) (Q : Bool → Hp → Prop), Inv X pins σ H s → t σ H Q → wpAny (model X.prog X.w) X.A (isTrue e X.env (eval e X.env)) (TP X pins σ Q) X.xe s
/-- a test whatever its 'whole' is (and, or) -/
noncomputable def PW (X : Cx) (e : Expr) (t : TT) : Prop :=
  ∀ (whole : Sem Value) (pins : List (Addr × Obj)) (s : Shared) (σ : St) (H : Hp) (Q : Bool → Hp → Prop), Inv X pins σ H s → t σ H Q → wpAny (model X.prog X.w) X.A (isTrue e X.env whole) (TP X pins σ Q) X.xe s
theorem PW.pt {X : Cx} {e : Expr} {t : TT} (h : PW X e t) : PT X e t := h _
/-- an argument list (no star), from the left -/
noncomputable def PA (X : Cx) (es : List Expr) (t : TA) : Prop :=
  ∀ (pos : Pos) (pins : List (Addr × Obj)) (s : Shared) (σ : St) (H : Hp) (Q : List V → Hp → Prop), Inv X pins σ H s → t σ H Q → wpAny (model X.prog X.w) X.A (spliced (backTo pos (starEach es X.env))) (AP X pins σ Q) X.xe s
noncomputable def PS (X : Cx) (st : Stmt) (t : TS) : Prop :=
  ∀ (pins : List (Addr × Obj)) (s : Shared) (σ : St) (H : Hp) (D : Ends), Inv X pins σ H s → t D σ H → wpAny (model X.prog X.w) X.A (exec st X.env) (SP X pins D) X.xe s
noncomputable def PSs (X : Cx) (st : List Stmt) (t : TS) : Prop :=
  ∀ (pins : List (Addr × Obj)) (s : Shared) (σ : St) (H : Hp) (D : Ends), Inv X pins σ H s → t D σ H → wpAny (model X.prog X.w) X.A (execs st X.env) (SP X pins D) X.xe s
/-- weaken the end -/
theorem thn {α : Type} {t : Sem α} {Q Q' : α → Shared → Prop} {M : Model} {A : Around} {E : Value → Shared → Prop} {s : Shared} (h : wpAny M A t Q E s) (hQ : ∀ a s, Q a s → Q' a s) : wpAny M A t Q' E s := wpAny_mono h hQ fun _ _ x => x
end L2

namespace L2
open PySem PySem.Spec PyProof.Rows
section
variable {X : Cx}

/-- two expressions in a row -/
theorem bin {a b : Expr} {ta tb : TE} (ha : PE X a ta) (hb : PE X b tb) {pins : List (Addr × Obj)} {s : Shared} {σ : St} {H : Hp} {R : V → V → Hp → Prop} (I : Inv X pins σ H s) (h : ta σ H fun x H1 => tb σ H1 fun y H2 => R x y H2)
    {α : Type} {Q : α → Shared → Prop} {f : Value → Value → Sem α}
    (hf : ∀ v u s2 x y H2, Inv X pins σ H2 s2 → RelV x v → RelV y u → R x y H2 → wpAny (model X.prog X.w) X.A (f v u) Q X.xe s2) :
    wpAny (model X.prog X.w) X.A (eval a X.env) (fun v s₁ => wpAny (model X.prog X.w) X.A (eval b X.env) (fun u s₂ => wpAny (model X.prog X.w) X.A (f v u) Q X.xe s₂) X.xe s₁) X.xe s := by
  refine thn (ha pins s σ H _ I h) fun v s1 ⟨x, H1, I1, r1, q1⟩ => ?_
  refine thn (hb pins s1 σ H1 _ I1 q1) fun u s2 ⟨y, H2, I2, r2, q2⟩ => ?_
  exact hf v u s2 x y H2 I2 r1 r2 q2

/-! ### names and constants -/
noncomputable def tVar (i : Nat) : TE := fun σ H Q => ∃ v, σ[i]? = some (some v) ∧ Q v H
noncomputable def tC (v : V) : TE := fun _ H Q => Q v H
theorem pe_var {i : Nat} {x : Str} {pos : Pos} (hN : X.N[i]? = some x) (hv : Vis X.env.scope x) (hd : (x == ("__debug__" : Str)) = false := by decide) (hcd : (x == ("__classdict__" : Str)) = false := by decide) : PE X (.Name x pos) (tVar i) := by
  intro pins s σ H Q I h
  obtain ⟨v, e, h⟩ := h
  obtain ⟨m, hn, hl⟩ := I.loc
  obtain ⟨u, r, l⟩ := hl i x v hN e hv
  have fin : EP X pins σ Q u s := ⟨v, H, I, r, h⟩
  rcases l with ⟨hk, hm⟩ | ⟨hk, c, hc, hcell⟩
  · exact wpAny_Name (wpAny_loadName_local I.ok.kind hk hn hm fin) hd
  · rcases hk with hk | hk
    · exact wpAny_Name (wpAny_loadName_cell I.ok.kind hk hc hcell fin) hd
    · exact wpAny_Name (wpAny_loadName_free I.ok.kind hk hc hcell fin hcd) hd
theorem pe_int {i j pos} : PE X (.Constant (.int i) j pos) (tC (.int i)) := fun _ _ _ H _ I h => wpAny_Constant_int ⟨.int i, H, I.tok _, ⟨_, rfl⟩, h⟩
theorem pe_bl {b j pos} : PE X (.Constant (.bool b) j pos) (tC (.bl b)) := fun _ _ _ H _ I h => Constant_bool ⟨.bl b, H, I, rfl, h⟩
theorem pe_non {j pos} : PE X (.Constant .none j pos) (tC .non) := fun _ _ _ H _ I h => Constant_none ⟨.non, H, I, rfl, h⟩
theorem pe_str {x j pos} : PE X (.Constant (.str x) j pos) (tC (.str x)) := fun _ _ _ H _ I h => Calls.Constant_str ⟨.str x, H, I.tok _, ⟨_, rfl⟩, h⟩

/-- a global name of the def -/
noncomputable def Gl (X : Cx) (x : Str) : Prop := X.env.kindOf x = some .globalImplicit
theorem ld_glob {E : Value → Shared → Prop} {pins : List (Addr × Obj)} {s : Shared} {σ : St} {H : Hp} {x : Str} {u : Value} {pos : Pos} {Q : Value → Shared → Prop} (I : Inv X pins σ H s) (hg : Gl X x) (hm : X.mg x = some u) (h : Q u s)
    (hd : (x == ("__debug__" : Str)) = false := by decide) : wpAny (model X.prog X.w) X.A (eval (.Name x pos) X.env) Q E s :=
  Calls.Name_function_global I.ok.kind hg (Calls.loadGlobal_global (by rw [I.ok.glob]; exact I.mod.glob.keeps I.bk) hm h) hd
theorem ld_blt {E : Value → Shared → Prop} {pins : List (Addr × Obj)} {s : Shared} {σ : St} {H : Hp} {x : Str} {u : Value} {pos : Pos} {Q : Value → Shared → Prop} (I : Inv X pins σ H s) (hg : Gl X x) (hm : X.mg x = none) (hv : bootBuiltins x = some u) (h : Q u s)
    (hn : x ≠ "__name__" := by decide) (hd : (x == ("__debug__" : Str)) = false := by decide) : wpAny (model X.prog X.w) X.A (eval (.Name x pos) X.env) Q E s := by
  obtain ⟨mb, h1, h2⟩ := I.mod.blt
  exact Calls.Name_function_global I.ok.kind hg (Calls.loadGlobal_builtin (by rw [I.ok.glob]; exact I.mod.glob.keeps I.bk) hm (by rw [I.ok.blt]; exact h1.keeps I.bk) ((h2 x hn).trans hv) h) hd
/-- a module's constant, a class, a function, as a value -/
theorem pe_glob {x : Str} {v : V} {u : Value} {pos : Pos} (hg : Gl X x) (hm : X.mg x = some u) (r : RelV v u) (hd : (x == ("__debug__" : Str)) = false := by decide) : PE X (.Name x pos) (tC v) :=
  fun _ _ _ H _ I h => ld_glob I hg hm ⟨v, H, I, r, h⟩ hd
theorem pe_bltn {x : Str} {v : V} {u : Value} {pos : Pos} (hg : Gl X x) (hm : X.mg x = none) (hv : bootBuiltins x = some u) (r : RelV v u) (hn : x ≠ "__name__" := by decide) (hd : (x == ("__debug__" : Str)) = false := by decide) : PE X (.Name x pos) (tC v) :=
  fun _ _ _ H _ I h => ld_blt I hg hm hv ⟨v, H, I, r, h⟩ hn hd

/-! ### arithmetic -/
/-- two ints -/
noncomputable def t2I (ta tb : TE) (k : Int → Int → Hp → Prop) : St → Hp → Prop := fun σ H => ta σ H fun x H1 => tb σ H1 fun y H2 => ∃ i j, x = .int i ∧ y = .int j ∧ k i j H2
variable {a b : Expr} {ta tb : TE} {pos : Pos}

/-! ### comparisons -/
noncomputable def PC (X : Cx) (op : CmpOp) (a b : Expr) (t : TE) : Prop :=
  ∀ (pins : List (Addr × Obj)) (s : Shared) (σ : St) (H : Hp) (Q : VK), Inv X pins σ H s → t σ H Q →
    wpAny (model X.prog X.w) X.A (eval a X.env) (fun v s₁ => wpAny (model X.prog X.w) X.A (eval b X.env) (fun u s₂ => wpAny (model X.prog X.w) X.A (compareOp op v u) (EP X pins σ Q) X.xe s₂) X.xe s₁) X.xe s
noncomputable def tCmp (p : Int → Int → Bool) (ta tb : TE) : TE := fun σ H Q => t2I ta tb (fun i j H2 => Q (.bl (p i j)) H2) σ H
noncomputable abbrev tLt : TE → TE → TE := tCmp fun i j => decide (i < j)
noncomputable abbrev tLe : TE → TE → TE := tCmp fun i j => decide (i ≤ j)
noncomputable abbrev tGt : TE → TE → TE := tCmp fun i j => decide (j < i)
noncomputable abbrev tGe : TE → TE → TE := tCmp fun i j => decide (j ≤ i)
noncomputable abbrev tEqI : TE → TE → TE := tCmp fun i j => decide (i = j)
noncomputable abbrev tNeI : TE → TE → TE := tCmp fun i j => !decide (i = j)
/-- a comparison as a value, as a test -/
noncomputable def tB (t : TE) : TT := fun σ H Q => t σ H fun x H1 => ∃ c, x = .bl c ∧ Q c H1
theorem pt_cmp {op : CmpOp} {t : TE} (h : PC X op a b t) (h1 : behindInMarks op b = false := by first | exact nobehind _ (by decide) (by decide) | rfl) : PT X (.Compare a [op] [b] pos) (tB t) := by
  intro pins s σ H Q I hw
  refine wpAny_isTrue_Compare1 (thn (h pins s σ H _ I hw) fun v s1 h1 => thn h1 fun u s2 h2 => thn h2 fun c s3 ⟨x, H1, I1, r1, q1⟩ => ?_) h1
  obtain ⟨d, rfl, q⟩ := q1
  cases r1
  exact wpAny_truthy_bool ⟨H1, I1, q⟩
/-- an expression whose value is a bool, as a test -/
theorem pt_val {e : Expr} {t : TE} (h : PE X e t) (he : ∀ whole, isTrue e X.env whole = (do let v ← whole; standAt e.pos; holding [v] (truthy v)) := by intro _; rfl) : PT X e (tB t) := by
  intro pins s σ H Q I hw
  refine isTrue_plain (thn (h pins s σ H _ I hw) fun v s1 ⟨x, H1, I1, r1, q1⟩ => ?_) (he _)
  obtain ⟨d, rfl, q⟩ := q1
  cases r1
  exact wpAny_truthy_bool ⟨H1, I1, q⟩

/-! ### and, or, not -/
variable {tA tB' : TT} {rest : List Expr}
noncomputable def tAnd (t u : TT) : TT := fun σ H Q => t σ H fun c H1 => if c = true then u σ H1 Q else Q false H1
noncomputable def tOr (t u : TT) : TT := fun σ H Q => t σ H fun c H1 => if c = true then Q true H1 else u σ H1 Q
noncomputable def tNot (t : TT) : TT := fun σ H Q => t σ H fun c H1 => Q (!c) H1
theorem pw_and1 (ha : PT X a tA) : PW X (.BoolOp .And [a] pos) tA := by
  intro wh pins s σ H Q I h
  refine isTrue_and (thn (ha pins s σ H Q I h) fun c s1 e => ?_)
  cases c with
  | true => exact isTrue_and_nil e
  | false => exact e
theorem pw_or1 (ha : PT X a tA) : PW X (.BoolOp .Or [a] pos) tA := by
  intro wh pins s σ H Q I h
  refine isTrue_or (thn (ha pins s σ H Q I h) fun c s1 e => ?_)
  cases c with
  | false => exact isTrue_or_nil e
  | true => exact e
theorem pw_and (ha : PT X a tA) (hb : PW X (.BoolOp .And (b :: rest) pos) tB') : PW X (.BoolOp .And (a :: b :: rest) pos) (tAnd tA tB') := by
  intro wh pins s σ H Q I h
  refine isTrue_and (thn (ha pins s σ H _ I h) fun c s1 ⟨H1, I1, q1⟩ => ?_)
  cases c with
  | true => exact hb wh pins s1 σ H1 Q I1 q1
  | false => exact ⟨H1, I1, q1⟩
theorem pw_or (ha : PT X a tA) (hb : PW X (.BoolOp .Or (b :: rest) pos) tB') : PW X (.BoolOp .Or (a :: b :: rest) pos) (tOr tA tB') := by
  intro wh pins s σ H Q I h
  refine isTrue_or (thn (ha pins s σ H _ I h) fun c s1 ⟨H1, I1, q1⟩ => ?_)
  cases c with
  | true => exact ⟨H1, I1, q1⟩
  | false => exact hb wh pins s1 σ H1 Q I1 q1
theorem pt_not (ha : PT X a tA) : PT X (.UnaryOp .Not a pos) (tNot tA) := by
  intro pins s σ H Q I h
  exact isTrue_not (ha pins s σ H (fun c H1 => Q (!c) H1) I h)
/-- .. as values (bools) -/
noncomputable def tAndV (ta tb : TE) : TE := fun σ H Q => ta σ H fun x H1 => ∃ c, x = .bl c ∧ if c = true then tb σ H1 Q else Q (.bl false) H1
noncomputable def tNotV (ta : TE) : TE := fun σ H Q => ta σ H fun x H1 => ∃ c, x = .bl c ∧ Q (.bl (!c)) H1
theorem pe_one {op} {t : TE} (h : PE X a t) : PE X (.BoolOp op [a] pos) t := fun pins s σ H Q I hw => BoolOp_one (h pins s σ H Q I hw)
theorem pe_and (ha : PE X a ta) (hb : PE X (.BoolOp .And (b :: rest) pos) tb) : PE X (.BoolOp .And (a :: b :: rest) pos) (tAndV ta tb) := by
  intro pins s σ H Q I h
  refine BoolOp_and (thn (ha pins s σ H _ I h) fun v s1 ⟨x, H1, I1, r1, q1⟩ => ?_)
  obtain ⟨c, rfl, q1⟩ := q1
  cases r1
  refine wpAny_truthy_bool ?_
  cases c with
  | true => exact hb pins s1 σ H1 Q I1 q1
  | false => exact ⟨.bl false, H1, I1, rfl, q1⟩
theorem pe_not (ha : PE X a ta) : PE X (.UnaryOp .Not a pos) (tNotV ta) := by
  intro pins s σ H Q I h
  refine UnaryOp_ (thn (ha pins s σ H _ I h) fun v s1 ⟨x, H1, I1, r1, q1⟩ => ?_)
  obtain ⟨c, rfl, q1⟩ := q1
  cases r1
  exact not_of (wpAny_truthy_bool ⟨.bl (!c), H1, I1, rfl, q1⟩)
end
end L2

namespace L2
open PySem PySem.Spec PyProof.Rows

/-! ### a list, a tuple that is read: tracked, frozen, or an object of the module -/
noncomputable def SqL (K : PySem.W.Frag) (H : Hp) (a : Addr) (xs : List V) : Prop :=
  Rd H a (.lst xs) ∨
    ∃ (o : Obj) (its : Array Value) (n : Nat), K.lookup a = some o ∧ o.cls = .type "list" ∧ o.dict = none ∧ o.data = .seq its n ∧ its.size ≤ sizeLine ∧ Vals xs its.toList
noncomputable def SqT (K : PySem.W.Frag) (H : Hp) (a : Addr) (xs : List V) : Prop :=
  Rd H a (.tup xs) ∨
    ∃ (o : Obj) (its : Array Value) (n : Nat), K.lookup a = some o ∧ o.cls = .type "tuple" ∧ o.data = .seq its n ∧ its.size ≤ sizeLine ∧ Vals xs its.toList
noncomputable def absV : Value → Option V
  | .none => some .non
  | .bool b => some (.bl b)
  | .int i _ => some (.int i)
  | .str x _ => some (.str x)
  | .bytes b _ => some (.byt b)
  | .float b _ => some (.flt b)
  | .ref a => some (.ref a)
  | .type n => some (.ty n)
  | _ => none
theorem RelV.abs {x : V} {u : Value} (r : RelV x u) : absV u = some x := by
  cases x with
  | non => cases r; rfl
  | bl _ => cases r; rfl
  | int _ => obtain ⟨t, rfl⟩ := r; rfl
  | str _ => obtain ⟨t, rfl⟩ := r; rfl
  | byt _ => obtain ⟨t, rfl⟩ := r; rfl
  | flt _ => obtain ⟨t, rfl⟩ := r; rfl
  | ref _ => cases r; rfl
  | ty _ => cases r; rfl
theorem RelV.inj {x y : V} {u : Value} (r : RelV x u) (q : RelV y u) : x = y := Option.some.inj (r.abs.symm.trans q.abs)
theorem Vals.inj : ∀ {xs ys : List V} {us : List Value}, Vals xs us → Vals ys us → xs = ys
  | _, _, _, .nil, .nil => rfl
  | _, _, _, .cons r t, .cons r' t' => by rw [r.inj r', Vals.inj t t']
section
variable {X : Cx} {pins : List (Addr × Obj)} {σ : St} {H : Hp} {s : Shared} {a : Addr} {xs ys : List V}
theorem SqL.of {K : PySem.W.Frag} (h : H a = some (.lst xs)) : SqL K H a xs := .inl (.inl h)
theorem SqT.of {K : PySem.W.Frag} (h : H a = some (.tup xs)) : SqT K H a xs := .inl (.inl h)
theorem Inv.list (I : Inv X pins σ H s) (h : SqL X.K H a xs) : ∃ its : List Value, Vals xs its ∧ PlainL s.heap a its.toArray ∧ xs.length ≤ sizeLine := by
  rcases h with h | ⟨o, its, n, hk, hc, hd, hs, hz, r⟩
  · obtain ⟨z, its, n, r, e⟩ := h.ok I.hok
    exact ⟨its, r, ⟨_, n, e, rfl, rfl, rfl⟩, z⟩
  · refine ⟨its.toList, r, ⟨o, n, I.kIn a o hk, hc, hd, by simpa using hs⟩, ?_⟩
    have e := r.length
    simp only [Array.length_toList] at e
    lia
theorem Inv.tuple (I : Inv X pins σ H s) (h : SqT X.K H a xs) : ∃ its : List Value, Vals xs its ∧ IsTup s.heap a its.toArray ∧ xs.length ≤ sizeLine := by
  rcases h with h | ⟨o, its, n, hk, hc, hs, hz, r⟩
  · obtain ⟨z, its, r, p⟩ := h.ok I.hok
    exact ⟨its, r, p, z⟩
  · refine ⟨its.toList, r, ⟨o, I.kIn a o hk, hc, n, by simpa using hs⟩, ?_⟩
    have e := r.length
    simp only [Array.length_toList] at e
    lia
theorem Inv.list_inj (I : Inv X pins σ H s) (h : SqL X.K H a xs) (h' : SqL X.K H a ys) : xs = ys := by
  obtain ⟨its, r, ⟨o, n, e, _, _, d⟩, _⟩ := I.list h
  obtain ⟨its', r', ⟨o', n', e', _, _, d'⟩, _⟩ := I.list h'
  rw [e] at e'; cases e'
  rw [d] at d'
  injection d' with d1 _
  have : its = its' := by simpa using congrArg Array.toList d1
  subst this
  exact r.inj r'
theorem Inv.tuple_inj (I : Inv X pins σ H s) (h : SqT X.K H a xs) (h' : SqT X.K H a ys) : xs = ys := by
  obtain ⟨its, r, ⟨o, e, _, n, d⟩, _⟩ := I.tuple h
  obtain ⟨its', r', ⟨o', e', _, n', d'⟩, _⟩ := I.tuple h'
  rw [e] at e'; cases e'
  rw [d] at d'
  injection d' with d1 _
  have : its = its' := by simpa using congrArg Array.toList d1
  subst this
  exact r.inj r'
end

/-! ### another wish about exceptions -/
noncomputable abbrev Cx.wish (X : Cx) (E : Value → Shared → Prop) : Cx := { X with xe := E }
/-- no exception leaves -/
noncomputable abbrev Cx.nox (X : Cx) : Cx := X.wish fun _ _ => False
theorem Cx.Ok.wish {X : Cx} (ok : X.Ok) (E : Value → Shared → Prop) : (X.wish E).Ok :=
  ⟨ok.mod, ok.kind, ok.glob, ok.blt, ok.above, ok.inj, ok.has, ok.cab, ok.hd, ok.frames, ok.stk, ok.exf, ok.bs, ok.bsz, ok.noex, ok.exfs, ok.funs, ok.frf⟩
theorem Cx.Ok.unwish {X : Cx} {E : Value → Shared → Prop} (ok : (X.wish E).Ok) : X.Ok :=
  ⟨ok.mod, ok.kind, ok.glob, ok.blt, ok.above, ok.inj, ok.has, ok.cab, ok.hd, ok.frames, ok.stk, ok.exf, ok.bs, ok.bsz, ok.noex, ok.exfs, ok.funs, ok.frf⟩
section
variable {X : Cx} {pins : List (Addr × Obj)} {σ : St} {H : Hp} {s : Shared} {E : Value → Shared → Prop}
theorem Inv.wish (I : Inv X pins σ H s) (E : Value → Shared → Prop) : Inv (X.wish E) pins σ H s := ⟨I.ok.wish E, I.os, I.bare, I.base, I.loc, I.cell, I.free, I.freeC, I.pin, I.hok, I.len⟩
theorem Inv.unwish (I : Inv (X.wish E) pins σ H s) : Inv X pins σ H s := ⟨I.ok.unwish, I.os, I.bare, I.base, I.loc, I.cell, I.free, I.freeC, I.pin, I.hok, I.len⟩
theorem SP.unwish {D : Ends} {f : Flow} {s' : Shared} (h : SP (X.wish E) pins D f s') : SP X pins D f s' := by
  cases f with
  | next => obtain ⟨σ', H', I, q⟩ := h; exact ⟨σ', H', I.unwish, q⟩
  | brk => obtain ⟨σ', H', I, q⟩ := h; exact ⟨σ', H', I.unwish, q⟩
  | cont => obtain ⟨σ', H', I, q⟩ := h; exact ⟨σ', H', I.unwish, q⟩
  | ret u => obtain ⟨v, σ', H', I, r, q⟩ := h; exact ⟨v, σ', H', I.unwish, r, q⟩
theorem PSs.nox {st : List Stmt} {t : TS} (h : PSs X.nox st t) : PSs X st t := fun pins s σ H D I hw =>
  wpAny_mono (h pins s σ H D (I.wish _) hw) (fun _ _ q => q.unwish) fun _ _ z => False.elim z
end

/-! ### blocks and small statements -/
section
variable {X : Cx} {st : Stmt} {rest : List Stmt} {t u : TS} {e : Expr} {te : TE} {pos : Pos}
noncomputable def tNext : TS := fun D σ H => D.nx σ H
noncomputable def tSeq (t u : TS) : TS := fun D σ H => t { D with nx := u D } σ H
theorem pss_nil : PSs X [] tNext := fun _ _ σ H _ I h => wpAny_execs_nil ⟨σ, H, I, h⟩
theorem pss_cons (h1 : PS X st t) (h2 : PSs X rest u) : PSs X (st :: rest) (tSeq t u) := by
  intro pins s σ H D I h
  refine wpAny_execs_cons (thn (h1 pins s σ H { D with nx := u D } I h) fun f s1 q => ?_)
  cases f with
  | next =>
    obtain ⟨σ', H', I', q⟩ := q
    exact h2 pins s1 σ' H' D I' q
  | ret v => exact q
  | brk => exact q
  | cont => exact q
theorem pss_one (h1 : PS X st t) : PSs X [st] t := by
  intro pins s σ H D I h
  refine wpAny_execs_cons (thn (h1 pins s σ H D I h) fun f s1 q => ?_)
  cases f with
  | next => exact wpAny_execs_nil q
  | ret v => exact q
  | brk => exact q
  | cont => exact q
/-- in a def's body nothing is shown -/
theorem Inv.quiet {pins : List (Addr × Obj)} {σ : St} {H : Hp} {s : Shared} (I : Inv X pins σ H s) : interactive X.env = false := by simp [interactive, I.ok.kind]
/-- an expression whose value is dropped -/
noncomputable def tDrop (te : TE) : TS := fun D σ H => te σ H fun _ H1 => D.nx σ H1
theorem ps_expr (he : PE X e te) (hs : swapsWith e none pos.line X.env = pure false := by rfl) : PS X (.Expr e pos) (tDrop te) := by
  intro pins s σ H D I h
  exact wpAny_Expr_any (thn (he pins s σ H _ I h) fun v s1 ⟨x, H1, I1, r1, q1⟩ => ⟨σ, H1, I1, q1⟩) I.quiet hs
noncomputable def tRet (te : TE) : TS := fun D σ H => te σ H D.rt
theorem ps_ret (he : PE X e te) : PS X (.Return (some e) pos) (tRet te) := by
  intro pins s σ H D I h
  exact wpAny_Return_some (thn (he pins s σ H _ I h) fun v s1 ⟨x, H1, I1, r1, q1⟩ => ⟨x, σ, H1, I1, r1, q1⟩)
noncomputable def tIfS (c : TT) (t u : TS) : TS := fun D σ H => c σ H fun b H1 => if b = true then t D σ H1 else u D σ H1
theorem ps_if {c : Expr} {a b : List Stmt} {tc : TT} (hc : PT X c tc) (ha : PSs X a t) (hb : PSs X b u) : PS X (.If c a b pos) (tIfS tc t u) := by
  intro pins s σ H D I h
  refine wpAny_If (thn (hc pins s σ H _ I h) fun d s1 ⟨H1, I1, q1⟩ => ?_)
  cases d with
  | true => exact ha pins s1 σ H1 D I1 q1
  | false => exact hb pins s1 σ H1 D I1 q1
end

/-! ### targets -/
noncomputable abbrev TG := V → St → Hp → (St → Hp → Prop) → Prop
noncomputable abbrev TGs := List V → St → Hp → (St → Hp → Prop) → Prop
noncomputable def PG (X : Cx) (target : Expr) (t : TG) : Prop :=
  ∀ (pins : List (Addr × Obj)) (s : Shared) (σ : St) (H : Hp) (v : V) (u : Value) (Q : St → Hp → Prop), Inv X pins σ H s → RelV v u → t v σ H Q →
    wpAny (model X.prog X.w) X.A (assign target X.env u) (fun _ s' => ∃ σ' H', Inv X pins σ' H' s' ∧ Q σ' H') X.xe s
/-- several targets, one after another -/
noncomputable def PGs (X : Cx) (ts : List Expr) (t : TGs) : Prop :=
  ∀ (pins : List (Addr × Obj)) (s : Shared) (σ : St) (H : Hp) (vs : List V) (us : List Value) (Q : St → Hp → Prop), Inv X pins σ H s → Vals vs us → t vs σ H Q →
    wpAny (model X.prog X.w) X.A (assignInOrder ((assignEach ts X.env).map (·.2)) us) (fun _ s' => ∃ σ' H', Inv X pins σ' H' s' ∧ Q σ' H') X.xe s
/-- o[i] = v, by values -/
noncomputable abbrev TSet := V → V → V → Hp → (Hp → Prop) → Prop
noncomputable def PSet (X : Cx) (t : TSet) : Prop :=
  ∀ (pins : List (Addr × Obj)) (s : Shared) (σ : St) (H : Hp) (o i v : V) (ov iv u : Value) (Q : Hp → Prop), Inv X pins σ H s → RelV o ov → RelV i iv → RelV v u → t o i v H Q →
    wpAny (model X.prog X.w) X.A (setItem ov iv u) (fun _ s' => ∃ H', Inv X pins σ H' s' ∧ Q H') X.xe s
/-- a op= b, by values -/
noncomputable abbrev TIp := V → V → Hp → VK → Prop
noncomputable def PIp (X : Cx) (op : Operator) (t : TIp) : Prop :=
  ∀ (pins : List (Addr × Obj)) (s : Shared) (σ : St) (H : Hp) (x y : V) (v u : Value) (Q : VK), Inv X pins σ H s → RelV x v → RelV y u → t x y H Q →
    wpAny (model X.prog X.w) X.A (inplaceOp op v u) (EP X pins σ Q) X.xe s
section
variable {X : Cx} {pos : Pos}
noncomputable def gName (i : Nat) : TG := fun v σ H Q => Q (σ.set i (some v)) H
theorem pg_name {i : Nat} {x : Str} (hN : X.N.Nodup) (hi : X.N[i]? = some x) (hx : Loc X.env.scope x) (hf : X.fn x = true ∨ X.env.scope.names.lookup x = some .local := by first | exact .inl rfl | exact .inr rfl | assumption) : PG X (.Name x pos) (gName i) := by
  intro pins s σ H v u Q I r h
  exact wpAny_assign_Name (store_ok I hN hi hx r (fun s' I' => ⟨_, H, I', h⟩) hf)
noncomputable def gNil : TGs := fun vs σ H Q => vs = [] ∧ Q σ H
noncomputable def gCons (t : TG) (u : TGs) : TGs := fun vs σ H Q => ∃ v r, vs = v :: r ∧ t v σ H fun σ' H' => u r σ' H' Q
theorem pgs_nil : PGs X [] gNil := by
  intro pins s σ H vs us Q I r h
  obtain ⟨e, h⟩ := h
  subst e
  cases r
  exact assignInOrder_nil ⟨σ, H, I, h⟩
theorem pgs_cons {e : Expr} {es : List Expr} {t : TG} {u : TGs} (h1 : PG X e t) (h2 : PGs X es u)
    (hs : (assignEach (e :: es) X.env).map (·.2) = assign e X.env :: (assignEach es X.env).map (·.2) := by rfl) : PGs X (e :: es) (gCons t u) := by
  intro pins s σ H vs us Q I r h
  obtain ⟨v, vr, e1, h⟩ := h
  subst e1
  cases r with
  | cons r rr =>
    rw [hs]
    refine assignInOrder_cons (thn (h1 pins s σ H _ _ _ I r h) fun _ s1 ⟨σ1, H1, I1, q1⟩ => ?_)
    exact h2 pins s1 σ1 H1 _ _ Q I1 rr q1
/-- (a, b, ..) = a tuple of that length -/
noncomputable def gTup (K : PySem.W.Frag) (n : Nat) (t : TGs) : TG := fun v σ H Q => ∃ a xs, v = .ref a ∧ SqT K H a xs ∧ xs.length = n ∧ t xs σ H Q
theorem pg_tup {es : List Expr} {k : Nat} {t : TGs} {n : Nat} (hc : X.calm = true) (h : PGs X es t)
    (hn : (assignEach es X.env).length = n := by rfl) (hst : (assignEach es X.env).findIdx? (·.1) = none := by rfl) : PG X (.Tuple es k pos) (gTup X.K n t) := by
  intro pins s σ H v u Q I r hw
  obtain ⟨a, xs, e1, hq, hl, hw⟩ := hw
  subst e1
  cases r
  obtain ⟨its, rv, ht, hz⟩ := I.tuple hq
  refine assign_Tuple_tuple (I.ok.hd hc) ht (by simp [hn, ← hl, rv.length]) hst fun h' hx => ?_
  have I1 : Inv X pins σ H { s with heap := h' } := I.kept (t' := s.toks) fun b o e => hx b o (Nat.ne_of_lt (Heap.lt_size e)) e
  exact h pins _ σ H xs _ Q I1 (by simpa using rv) hw
/-- o[i] = .. -/
noncomputable def gSub (to ti : TE) (t : TSet) : TG := fun v σ H Q => to σ H fun o H1 => ti σ H1 fun i H2 => t o i v H2 fun H3 => Q σ H3
theorem pg_sub {o i : Expr} {to ti : TE} {t : TSet} (ho : PE X o to) (hi : PE X i ti) (hs : PSet X t)
    (ha : ∀ v, assign (.Subscript o i pos) X.env v = (do
      let ov ← holding [v] (eval o X.env)
      let iv ← holding [v, ov] (eval i X.env)
      standAt pos
      holding [v, ov, iv] (setItem ov iv v)
      release [v, ov, iv] []) := by intro _; rfl) : PG X (.Subscript o i pos) (gSub to ti t) := by
  intro pins s σ H v u Q I r h
  rw [ha]
  refine wpAny_bind (wpAny_holding (thn (ho pins s σ H _ I h) fun ov s1 ⟨x, H1, I1, r1, q1⟩ => ?_))
  refine wpAny_bind (wpAny_holding (thn (hi pins s1 σ H1 _ I1 q1) fun iv s2 ⟨y, H2, I2, r2, q2⟩ => ?_))
  refine wpAny_bind (wpAny_standAt (wpAny_bind (wpAny_holding (thn (hs pins s2 σ H2 x y v ov iv u _ I2 r1 r2 r q2) fun _ s3 ⟨H3, I3, q3⟩ => ?_))))
  exact wpAny_release ⟨σ, H3, I3, q3⟩
/-- target = value -/
noncomputable def tAsg (te : TE) (g : TG) : TS := fun D σ H => te σ H fun x H1 => g x σ H1 D.nx
theorem ps_asg {tg e : Expr} {te : TE} {g : TG} (he : PE X e te) (hg : PG X tg g) (hs : swapsWithSole [tg] e pos.line X.env = pure false := by rfl) (hw : swappedStores [tg] e X.env = pure none := by rfl)
    (h1 : (assignEach [tg] X.env).map (·.2) = [assign tg X.env] := by rfl) : PS X (.Assign [tg] e pos) (tAsg te g) := by
  intro pins s σ H D I h
  refine wpAny_Assign_stores (thn (he pins s σ H _ I h) fun v s1 ⟨x, H1, I1, r1, q1⟩ => ?_) hs hw
  rw [h1]
  exact thn (hg pins s1 σ H1 x v _ I1 r1 q1) fun _ s2 q => q
/-- name = value -/
theorem ps_set {i : Nat} {x : Str} {e : Expr} {te : TE} {pos' : Pos} (hN : X.N.Nodup) (hi : X.N[i]? = some x) (hx : Loc X.env.scope x) (he : PE X e te) (hs : swapsWith e (some (.Name x pos')) pos.line X.env = pure false := by rfl) (hf : X.fn x = true ∨ X.env.scope.names.lookup x = some .local := by first | exact .inl rfl | exact .inr rfl | assumption) :
    PS X (.Assign [.Name x pos'] e pos) (tAsg te (gName i)) := by
  intro pins s σ H D I h
  refine wpAny_Assign_Name (thn (he pins s σ H _ I h) fun v s1 ⟨y, H1, I1, r1, q1⟩ => ?_) hs
  exact store_ok I1 hN hi hx r1 (fun s2 I2 => ⟨_, H1, I2, q1⟩) hf
/-- a, b = x, y with plain local names: stored from the right; the pair itself is not tracked (the opening rows as in PyProof/Rows/TupAssign.lean:23) -/
noncomputable def tPar (i j : Nat) (ta : TA) : TS := fun D σ H => ta σ H fun vs H1 => ∃ v w, vs = [v, w] ∧ D.nx ((σ.set i (some v)).set j (some w)) H1
theorem ps_par {i j : Nat} {x y : Str} {a b : Expr} {ta : TA} {px py pt : Pos} {kt k2 pt2} (hc : X.calm = true) (hN : X.N.Nodup) (hi : X.N[i]? = some x) (hj : X.N[j]? = some y) (hij : i ≠ j)
    (hx : X.env.scope.names.lookup x = some .local) (hy : X.env.scope.names.lookup y = some .local) (ha : PA X [a, b] ta)
    (hw : swappedStores [.Tuple [.Name x px, .Name y py] kt pt] (.Tuple [a, b] k2 pt2) X.env = pure (some [x, y]))
    (hs : swapsWithSole [.Tuple [.Name x px, .Name y py] kt pt] (.Tuple [a, b] k2 pt2) pos.line X.env = pure false := by rfl) :
    PS X (.Assign [.Tuple [.Name x px, .Name y py] kt pt] (.Tuple [a, b] k2 pt2) pos) (tPar i j ta) := by
  intro pins s σ H D I h
  rw [exec_Assign_arm]
  refine wpAny_bind (wpAny_standAt ?_)
  rw [hs]
  refine wpAny_bind (wpAny_pure ?_)
  rw [if_neg (by decide)]
  refine wpAny_bind (Tuple_ (thn (ha _ pins s σ H _ I h) fun us s1 ⟨vs, H1, I1, r1, q1⟩ => ?_))
  obtain ⟨v, w, e1, q1⟩ := q1
  subst e1
  obtain ⟨u1, u2, rfl, rv, rw'⟩ : ∃ u1 u2, us = [u1, u2] ∧ RelV v u1 ∧ RelV w u2 := by
    cases r1 with
    | cons p q =>
      cases q with
      | cons p' q' =>
        cases q'
        exact ⟨_, _, rfl, p, p'⟩
  refine wpAny_newObj_type ?_ (by show 2 ≤ sizeLine; decide)
  have I2 : Inv X pins σ H1 { s1 with heap := s1.heap.push { cls := .type "tuple", data := .seq [u1, u2].toArray } } := I1.kept (t' := s1.toks) fun b o e => Heap.get?_push_of_some _ e
  rw [hw]
  refine wpAny_bind (wpAny_pure ?_)
  show wpAny (model X.prog X.w) X.A (do rule "assign.swapped-stores"; let items ← unpackItems (.ref s1.heap.objs.size) 2 none; assignInOrder [fun v => bindName X.env y v, fun v => bindName X.env x v] items.reverse; pure Flow.next) _ _ _
  refine wpAny_bind (wpAny_rule (wpAny_bind (unpackItems_tuple (items := #[u1, u2]) (I.ok.hd hc) (IsTup.new s1.heap _) fun h' hx' => ?_)))
  have I3 := I2.kept (h' := h') (t' := s1.toks) fun b o e => hx' b o (Nat.ne_of_lt (Heap.lt_size e)) e
  show wpAny _ _ (assignInOrder [fun v => bindName X.env y v, fun v => bindName X.env x v] [u2, u1] >>= fun _ => pure Flow.next) _ _ _
  refine wpAny_bind (assignInOrder_cons (wpAny_bindName (store_ok I3 hN hj (.inl hy) rw' (fun s2 I4 => ?_) (.inr hy))))
  refine assignInOrder_cons (wpAny_bindName (store_ok I4 hN hi (.inl hx) rv (fun s3 I5 => assignInOrder_nil (wpAny_pure ?_)) (.inr hx)))
  rw [List.set_comm _ _ (Ne.symm hij)] at I5
  exact ⟨_, H1, I5, q1⟩
/-- name op= e -/
noncomputable def tAug (i : Nat) (te : TE) (ti : TIp) : TS := fun D σ H => ∃ x, σ[i]? = some (some x) ∧ te σ H fun y H1 => ti x y H1 fun z H2 => D.nx (σ.set i (some z)) H2
theorem ps_aug {i : Nat} {x : Str} {e : Expr} {te : TE} {op : Operator} {ti : TIp} {pos' : Pos} (hN : X.N.Nodup) (hi : X.N[i]? = some x) (hx : Loc X.env.scope x) (he : PE X e te) (ho : PIp X op ti) (hf : X.fn x = true ∨ X.env.scope.names.lookup x = some .local := by first | exact .inl rfl | exact .inr rfl | assumption) :
    PS X (.AugAssign (.Name x pos') op e pos) (tAug i te ti) := by
  intro pins s σ H D I h
  obtain ⟨v, e1, h⟩ := h
  obtain ⟨m, hn, hl⟩ := I.loc
  have vis : Vis X.env.scope x := by rcases hx with k | k; exact .inl k; exact .inr (.inl k)
  obtain ⟨u, r, l⟩ := hl i x v hi e1 vis
  refine wpAny_AugAssign_Name ?_
  have go : wpAny (model X.prog X.w) X.A (eval e X.env) (fun w s₂ => wpAny (model X.prog X.w) X.A (inplaceOp op u w) (fun r s₃ => wpAny (model X.prog X.w) X.A (storeName X.env x r) (fun _ => SP X pins D .next) X.xe s₃) X.xe s₂) X.xe s := by
    refine thn (he pins s σ H _ I h) fun w s1 ⟨y, H1, I1, r1, q1⟩ => ?_
    refine thn (ho pins s1 σ H1 v y u w _ I1 r r1 q1) fun z s2 ⟨zv, H2, I2, r2, q2⟩ => ?_
    exact store_ok I2 hN hi hx r2 (fun s3 I3 => ⟨_, H2, I3, q2⟩) hf
  rcases l with ⟨hk, hm⟩ | ⟨hk, c, hc, hcell⟩
  · exact wpAny_loadName_local I.ok.kind hk hn hm go
  · rcases hk with hk | hk
    · exact wpAny_loadName_cell I.ok.kind hk hc hcell go
    · rcases hx with k | k
      · have : X.env.scope.names.lookup x = some .free := hk
        rw [k] at this; cases this
      · have : X.env.scope.names.lookup x = some .free := hk
        rw [k] at this; cases this
end

/-! ### while -/
section
variable {X : Cx} {pos : Pos}
/-- the invariant W with its measure -/
noncomputable def tWhile (c : TT) (tb : TS) : TS := fun D σ H => ∃ W : Nat → St → Hp → Prop, (∃ m, W m σ H) ∧ ∀ m σ H, W m σ H →
  c σ H fun b H1 => if b = true then ∃ N : St → Hp → Prop, (∀ σ' H', N σ' H' → ∃ m', m' < m ∧ W m' σ' H') ∧ tb { D with nx := N, ct := N, bk := D.nx } σ H1 else D.nx σ H1
theorem ps_while {c : Expr} {body : List Stmt} {tc : TT} {tb : TS} (hp : PassesOwn (model X.prog X.w) X.A X.env X.xe) (hc : PT X c tc) (hb : PSs X body tb) : PS X (.While c body [] pos) (tWhile tc tb) := by
  intro pins s σ H D I h
  obtain ⟨W, ⟨m0, w0⟩, turn⟩ := h
  refine wpAny_While (codeAny_whileLoop (fun n s' => ∃ σ' H', Inv X pins σ' H' s' ∧ W n σ' H') ?_ m0 ⟨σ, H, I, w0⟩)
  rintro n s1 ⟨σ1, H1, I1, w1⟩
  refine wpAny_passesOwn hp (thn (hc pins s1 σ1 H1 _ I1 (turn n σ1 H1 w1)) fun b s2 ⟨H2, I2, q2⟩ => ?_)
  cases b with
  | true =>
    obtain ⟨N, hN, q2⟩ := q2
    rw [if_pos rfl]
    refine wpAny_passesOwn hp (thn (hb pins s2 σ1 H2 _ I2 q2) fun f s3 q3 => ?_)
    cases f with
    | next =>
      obtain ⟨σ3, H3, I3, n3⟩ := q3
      obtain ⟨m', hm, w3⟩ := hN σ3 H3 n3
      exact ⟨m', hm, σ3, H3, I3, w3⟩
    | cont =>
      obtain ⟨σ3, H3, I3, n3⟩ := q3
      obtain ⟨m', hm, w3⟩ := hN σ3 H3 n3
      exact ⟨m', hm, σ3, H3, I3, w3⟩
    | brk => exact q3
    | ret v => exact q3
  | false =>
    rw [if_neg Bool.false_ne_true]
    exact wpAny_execs_nil ⟨σ1, H2, I2, q2⟩
end

/-! ### what a loop or a comprehension walks -/
/-- at turn i: it yields x (the heap may grow), or it stops -/
structure It where
  go : Nat → Hp → Prop
  yld : Nat → Hp → V → Hp → Prop
  stop : Nat → Hp → Prop
/-- the iterator's own objects may turn: they are not the frame's, not pinned, younger than the entry (or a comprehension's own) -/
noncomputable def FpOk (X : Cx) (pins : List (Addr × Obj)) (H : Hp) (b : Addr) : Prop :=
  H b = none ∧ b ≠ X.env.locals ∧ b ∉ X.fs ∧ (b ∈ X.ex ∨ X.s₀.heap.objs.size ≤ b) ∧ (∀ x c, X.env.cells.lookup x = some c → c ≠ b) ∧ ∀ p ∈ X.pn ++ pins, p.1 ≠ b
theorem Inv.fpOk {X : Cx} {pins : List (Addr × Obj)} {σ : St} {H H' : Hp} {s : Shared} {b : Addr} (I : Inv X pins σ H s) (hb : s.heap.objs.size ≤ b) (hn : H' b = none) : FpOk X pins H' b := by
  refine ⟨hn, Nat.ne_of_gt (Nat.lt_of_lt_of_le I.lt hb), I.nofs hb, .inr (Nat.le_trans I.sz hb), fun x c e z => ?_, fun p hp z => ?_⟩
  · obtain ⟨v, q⟩ := I.cell x c e
    exact absurd (Nat.lt_of_lt_of_le q.lt (by rw [z]; exact hb)) (Nat.lt_irrefl _)
  · exact absurd (Nat.lt_of_lt_of_le (Heap.lt_size (I.pin p hp).1) (by rw [z]; exact hb)) (Nat.lt_irrefl _)
structure Turn (P : Program) (w : World) (K : PySem.W.Frag) (tg : Expr) (J : It) (fp : List Addr) (it : Addr) (tn : Nat → Heap → Prop) : Prop where
  mem : it ∈ fp
  obj : ∀ i h, tn i h → ∀ b ∈ fp, ∃ o, h.get? b = some o ∧ ∀ v, o.data ≠ .cell v
  keep : ∀ i h h', tn i h → (∀ b ∈ fp, ∀ o, h.get? b = some o → h'.get? b = some o) → tn i h'
  item : ∀ (X : Cx), X.prog = P → X.w = w → X.K = K → X.calm = true → ∀ (i : Nat) (pins : List (Addr × Obj)) (s : Shared) (σ : St) (H : Hp) (E : Value → Shared → Prop), Inv X pins σ H s → (∀ b ∈ fp, FpOk X pins H b) → tn i s.heap → J.go i H →
    wpAny (model P w) X.A (pyNext (.ref it)) (fun r s1 => ∃ u, r = some u ∧
      wpAny (model P w) X.A (letOwnedTupleGo tg (.ref it) u) (fun _ s2 => ∃ x H', Inv X pins σ H' s2 ∧ RelV x u ∧ J.yld i H x H' ∧ tn (i + 1) s2.heap ∧ ∀ b ∈ fp, H' b = none) E s1) E s
  done : ∀ (X : Cx), X.prog = P → X.w = w → X.K = K → X.calm = true → ∀ (i : Nat) (pins : List (Addr × Obj)) (s : Shared) (σ : St) (H : Hp) (E : Value → Shared → Prop), Inv X pins σ H s → (∀ b ∈ fp, FpOk X pins H b) → tn i s.heap → J.stop i H →
    wpAny (model P w) X.A (pyNext (.ref it)) (fun r s1 => r = none ∧ Inv X pins σ H s1) E s
  self : ∀ (A : Around) (i : Nat) (s : Shared) (Q : Value → Shared → Prop) (E : Value → Shared → Prop), tn i s.heap → Q (.ref it) s → wpAny (model P w) A (pyIter (.ref it)) Q E s
noncomputable abbrev TI := St → Hp → (It → Hp → Prop) → Prop
/-- an iterator has come -/
noncomputable def PIE (X : Cx) (pins : List (Addr × Obj)) (σ : St) (tg : Expr) (R : It → Hp → Prop) (itv : Value) (s2 : Shared) : Prop :=
  ∃ (it : Addr) (fp : List Addr) (tn : Nat → Heap → Prop) (J : It) (H' : Hp), itv = .ref it ∧ Inv X pins σ H' s2 ∧ Turn X.prog X.w X.K tg J fp it tn ∧ tn 0 s2.heap ∧ (∀ b ∈ fp, FpOk X pins H' b) ∧ R J H'
noncomputable def PI (X : Cx) (tg iter : Expr) (wi : TI) : Prop :=
  ∀ (pins : List (Addr × Obj)) (s : Shared) (σ : St) (H : Hp) (R : It → Hp → Prop), Inv X pins σ H s → wi σ H R →
    wpAny (model X.prog X.w) X.A (eval iter X.env) (fun v s1 => wpAny (model X.prog X.w) X.A (pyIter v) (PIE X pins σ tg R) X.xe s1) X.xe s

/-- the step ahead of the store is nothing for an iterator that keeps no tuple -/
theorem go_of {M : Model} {A : Around} {E : Value → Shared → Prop} {s : Shared} {tg : Expr} {it : Addr} {u : Value} {o : Obj} {n : String} {vs : Array Value} {Q : Unit → Shared → Prop} (ho : s.heap.get? it = some o) (hc : o.cls = .type n) (hd : o.data = .fields vs)
    (hn : ["enumerate", "zip", "dict_itemiterator", "dict_reverseitemiterator", "odict_iterator", "itertools.zip_longest", "itertools.pairwise"].contains n = false) (hQ : Q () s) : wpAny M A (letOwnedTupleGo tg (.ref it) u) Q E s := by
  unfold letOwnedTupleGo
  cases tg <;> first
    | exact wpAny_pure hQ
    | (cases u <;> first
        | exact wpAny_pure hQ
        | (refine wpAny_bind (wpAny_load ho ?_)
           rw [hc, hd]
           show wpAny M A (if (["enumerate", "zip", "dict_itemiterator", "dict_reverseitemiterator", "odict_iterator", "itertools.zip_longest", "itertools.pairwise"].contains n && vs[0]? == some (rawInt _)) = true then _ else _) Q E s
           rw [if_neg (by intro h; rw [hn, Bool.false_and] at h; cases h)]
           exact wpAny_pure hQ))

/-- the list at a, as it stands at each turn (a loop may append to it) -/
noncomputable def Itl (K : PySem.W.Frag) (a : Addr) : It :=
  ⟨fun i H => ∃ xs x, SqL K H a xs ∧ xs[i]? = some x, fun i H x H' => H' = H ∧ ∀ xs, SqL K H a xs → xs[i]? = some x, fun i H => ∃ xs, SqL K H a xs ∧ xs.length ≤ i⟩
noncomputable def Itt (K : PySem.W.Frag) (a : Addr) : It :=
  ⟨fun i H => ∃ xs x, SqT K H a xs ∧ xs[i]? = some x, fun i H x H' => H' = H ∧ ∀ xs, SqT K H a xs → xs[i]? = some x, fun i H => ∃ xs, SqT K H a xs ∧ xs.length ≤ i⟩
/-- lo, lo + 1, .. (n of them) -/
noncomputable def Itr (lo : Int) (n : Nat) : It := ⟨fun i _ => i < n, fun i H x H' => H' = H ∧ x = .int (lo + i), fun i _ => n ≤ i⟩
theorem turn_list {P : Program} {w : World} {K : PySem.W.Frag} {tg : Expr} (a it : Addr) : Turn P w K tg (Itl K a) [it] it (fun i h => h.IsListIter it a i) where
  mem := by simp
  obj := fun i h st b hb => by
    have e : b = it := by simpa using hb
    subst e
    obtain ⟨o, e, c, d⟩ := st
    exact ⟨o, e, fun v z => by rw [d] at z; cases z⟩
  keep := fun i h h' st k => st.at fun o e => k it (by simp) o e
  item := by
    intro X hP hw hK hc i pins s σ H E I hf st hg
    subst hP hw hK
    obtain ⟨xs, x, hq, hx⟩ := hg
    obtain ⟨its, rv, p, hz⟩ := I.list hq
    obtain ⟨u, hu, ru⟩ := rv.get hx
    obtain ⟨f0, f1, f2, f3, f4, f5⟩ := hf it (by simp)
    refine wpAny_pyNext_list_item st p.isList (x := u) (by simpa using hu) fun h' st' sb => ?_
    have I1 : Inv X pins σ H { s with heap := h' } := I.turned (t' := s.toks) (fun b o hb e => (sb.2 b hb).trans e) f0 f1 f3 f4 f5
    obtain ⟨o, e, c, d⟩ := id st'
    exact ⟨u, rfl, go_of (s := { s with heap := h' }) e c d (by decide) ⟨x, H, I1, ru, ⟨rfl, fun ys hy => by rw [I.list_inj hy hq]; exact hx⟩, st', fun b hb => (hf b hb).1⟩⟩
  done := by
    intro X hP hw hK hc i pins s σ H E I hf st hg
    subst hP hw hK
    obtain ⟨xs, hq, hx⟩ := hg
    obtain ⟨its, rv, p, hz⟩ := I.list hq
    obtain ⟨f0, f1, f2, f3, f4, f5⟩ := hf it (by simp)
    have hl := rv.length
    exact wpAny_pyNext_list_end (I.ok.hd hc) st p.isList (by simp; lia) fun h' eb => ⟨rfl, I.turned (t' := s.toks) (fun b o hb e => eb b o hb e) f0 f1 f3 f4 f5⟩
  self := fun _ _ _ _ _ st h => wpAny_pyIter_listiter st h
theorem turn_tuple {P : Program} {w : World} {K : PySem.W.Frag} {tg : Expr} (a it : Addr) : Turn P w K tg (Itt K a) [it] it (fun i h => h.IsTupleIter it a i) where
  mem := by simp
  obj := fun i h st b hb => by
    have e : b = it := by simpa using hb
    subst e
    obtain ⟨o, e, c, d⟩ := st
    exact ⟨o, e, fun v z => by rw [d] at z; cases z⟩
  keep := fun i h h' st k => st.at fun o e => k it (by simp) o e
  item := by
    intro X hP hw hK hc i pins s σ H E I hf st hg
    subst hP hw hK
    obtain ⟨xs, x, hq, hx⟩ := hg
    obtain ⟨its, rv, p, hz⟩ := I.tuple hq
    obtain ⟨u, hu, ru⟩ := rv.get hx
    obtain ⟨f0, f1, f2, f3, f4, f5⟩ := hf it (by simp)
    refine wpAny_pyNext_tuple_item st (show s.heap.IsTuple a its.toArray from p) (x := u) (by simpa using hu) fun h' st' sb => ?_
    have I1 : Inv X pins σ H { s with heap := h' } := I.turned (t' := s.toks) (fun b o hb e => (sb.2 b hb).trans e) f0 f1 f3 f4 f5
    obtain ⟨o, e, c, d⟩ := id st'
    exact ⟨u, rfl, go_of (s := { s with heap := h' }) e c d (by decide) ⟨x, H, I1, ru, ⟨rfl, fun ys hy => by rw [I.tuple_inj hy hq]; exact hx⟩, st', fun b hb => (hf b hb).1⟩⟩
  done := by
    intro X hP hw hK hc i pins s σ H E I hf st hg
    subst hP hw hK
    obtain ⟨xs, hq, hx⟩ := hg
    obtain ⟨its, rv, p, hz⟩ := I.tuple hq
    obtain ⟨f0, f1, f2, f3, f4, f5⟩ := hf it (by simp)
    have hl := rv.length
    exact wpAny_pyNext_tuple_end (I.ok.hd hc) st (show s.heap.IsTuple a its.toArray from p) (by simp; lia) fun h' eb => ⟨rfl, I.turned (t' := s.toks) (fun b o hb e => eb b o hb e) f0 f1 f3 f4 f5⟩
  self := fun _ _ _ _ _ st h => wpAny_pyIter_tupleiter st h
theorem turn_range {P : Program} {w : World} {K : PySem.W.Frag} {tg : Expr} (it : Addr) (lo : Int) (n : Nat) : Turn P w K tg (Itr lo n) [it] it (fun i h => IsRangeIter h it (lo + (i : Nat) * 1) ((n : Int) - (i : Nat)) 1) where
  mem := by simp
  obj := fun i h st b hb => by
    have e : b = it := by simpa using hb
    subst e
    exact ⟨_, st, fun v z => by
      have z' : Data.fields _ = Data.cell v := z
      cases z'⟩
  keep := fun i h h' st k => k it (by simp) _ st
  item := by
    intro X hP hw hK hc i pins s σ H E I hf st hg
    subst hP hw hK
    obtain ⟨f0, f1, f2, f3, f4, f5⟩ := hf it (by simp)
    have W := Walks.range (prog := X.prog) (w := X.w) (I.ok.hd hc) it lo 1 n
    refine W.item i s _ _ hg st fun v h' tk hv st' kk => ?_
    obtain ⟨t, rfl⟩ := hv
    have I1 : Inv X pins σ H { s with heap := h', toks := tk } := I.turned (fun b o hb e => kk b o (by simpa using hb) e) f0 f1 f3 f4 f5
    refine ⟨_, rfl, go_of (s := { s with heap := h', toks := tk }) (n := "range_iterator") st' rfl rfl (by decide) ⟨.int (lo + i), H, I1, ⟨t, ?_⟩, ⟨rfl, rfl⟩, st', fun b hb => (hf b hb).1⟩⟩
    rw [Int.mul_one]
  done := by
    intro X hP hw hK hc i pins s σ H E I hf st hg
    subst hP hw hK
    obtain ⟨f0, f1, f2, f3, f4, f5⟩ := hf it (by simp)
    exact wpAny_pyNext_range_end (I.ok.hd hc) st (by have : n ≤ i := hg; lia) fun h' eb => ⟨rfl, I.turned (t' := s.toks) (fun b o hb e => eb b o hb e) f0 f1 f3 f4 f5⟩
  self := fun _ _ _ _ _ st h => wpAny_pyIter_rangeiter st h
end L2

namespace L2
open PySem PySem.Spec PyProof.Rows
section
variable {X : Cx} {tg : Expr}
noncomputable def iList (K : PySem.W.Frag) (tl : TE) : TI := fun σ H R => tl σ H fun x H1 => ∃ a, x = .ref a ∧ (∃ xs, SqL K H1 a xs) ∧ R (Itl K a) H1
noncomputable def iTup (K : PySem.W.Frag) (tl : TE) : TI := fun σ H R => tl σ H fun x H1 => ∃ a, x = .ref a ∧ (∃ xs, SqT K H1 a xs) ∧ R (Itt K a) H1
theorem pi_list {l : Expr} {tl : TE} (hl : PE X l tl) : PI X tg l (iList X.K tl) := by
  intro pins s σ H R I h
  refine thn (hl pins s σ H _ I h) fun v s1 ⟨x, H1, I1, r1, q1⟩ => ?_
  obtain ⟨a, e, ⟨xs, hq⟩, q⟩ := q1
  subst e
  cases r1
  obtain ⟨its, rv, p, hz⟩ := I1.list hq
  refine wpAny_pyIter_list p.isList ?_
  refine ⟨s1.heap.objs.size, [s1.heap.objs.size], _, _, H1, rfl, I1.kept (t' := s1.toks) fun b o e => Heap.get?_push_of_some _ e, turn_list a _, ⟨_, Heap.get?_push_size _ rfl, rfl, rfl⟩, fun b hb => ?_, q⟩
  have e : b = s1.heap.objs.size := by simpa using hb
  subst e
  exact I1.fpOk (Nat.le_refl _) (I1.hok.fresh (Nat.le_refl _))
theorem pi_tup {l : Expr} {tl : TE} (hl : PE X l tl) : PI X tg l (iTup X.K tl) := by
  intro pins s σ H R I h
  refine thn (hl pins s σ H _ I h) fun v s1 ⟨x, H1, I1, r1, q1⟩ => ?_
  obtain ⟨a, e, ⟨xs, hq⟩, q⟩ := q1
  subst e
  cases r1
  obtain ⟨its, rv, p, hz⟩ := I1.tuple hq
  refine wpAny_pyIter_tuple (show s1.heap.IsTuple a its.toArray from p) ?_
  refine ⟨s1.heap.objs.size, [s1.heap.objs.size], _, _, H1, rfl, I1.kept (t' := s1.toks) fun b o e => Heap.get?_push_of_some _ e, turn_tuple a _, ⟨_, Heap.get?_push_size _ rfl, rfl, rfl⟩, fun b hb => ?_, q⟩
  have e : b = s1.heap.objs.size := by simpa using hb
  subst e
  exact I1.fpOk (Nat.le_refl _) (I1.hok.fresh (Nat.le_refl _))
/-- a range object just made, walked -/
theorem range_it {pins : List (Addr × Obj)} {σ : St} {H : Hp} {s : Shared} {R : It → Hp → Prop} {E : Value → Shared → Prop} {lo hi : Int} {t u v : Tok} {tk : Nat} (I : Inv X pins σ H s) (h1 : -(2 ^ 62) ≤ lo) (h2 : lo < 2 ^ 62) (h3 : -(2 ^ 62) ≤ hi) (h4 : hi < 2 ^ 62)
    (q : R (Itr lo (hi - lo).toNat) H) : wpAny (model X.prog X.w) X.A (pyIter (.ref s.heap.objs.size)) (PIE X pins σ tg R) E { s with heap := s.heap.push { cls := .type "range", data := .fields #[.int lo t, .int hi u, .int 1 v] }, toks := tk } := by
  refine wpAny_pyIter_range (IsRange.new ..) (small_one h1 h2 h3 h4) ?_
  have I1 : Inv X pins σ H { s with heap := s.heap.push { cls := .type "range", data := .fields #[.int lo t, .int hi u, .int 1 v] }, toks := tk } := I.kept fun b o e => Heap.get?_push_of_some _ e
  refine ⟨(s.heap.push { cls := .type "range", data := .fields #[.int lo t, .int hi u, .int 1 v] }).objs.size, [(s.heap.push { cls := .type "range", data := .fields #[.int lo t, .int hi u, .int 1 v] }).objs.size], _, _, H, rfl,
    I1.kept (t' := tk) fun b o e => Heap.get?_push_of_some _ e, turn_range _ lo (hi - lo).toNat, ?_, fun b hb => ?_, q⟩
  · have e1 : lo + ((0 : Nat) : Int) * 1 = lo := by simp
    have e2 : (((hi - lo).toNat : Nat) : Int) - ((0 : Nat) : Int) = Builtin.Range.rangeSize lo hi 1 := by rw [rangeSize_one]; split <;> lia
    show IsRangeIter _ _ (lo + ((0 : Nat) : Int) * 1) ((((hi - lo).toNat : Nat) : Int) - ((0 : Nat) : Int)) 1
    rw [e1, e2]
    exact Heap.get?_push_size _ rfl
  · have e : b = (s.heap.push { cls := .type "range", data := .fields #[.int lo t, .int hi u, .int 1 v] }).objs.size := by simpa using hb
    subst e
    exact I1.fpOk (Nat.le_refl _) (I1.hok.fresh (Nat.le_refl _))
noncomputable def iRng1 (ta : TA) : TI := fun σ H R => ta σ H fun vs H1 => ∃ j : Int, vs = [.int j] ∧ -(2 ^ 62) ≤ j ∧ j < 2 ^ 62 ∧ R (Itr 0 j.toNat) H1
noncomputable def iRng2 (ta : TA) : TI := fun σ H R => ta σ H fun vs H1 => ∃ i j : Int, vs = [.int i, .int j] ∧ (-(2 ^ 62) ≤ i ∧ i < 2 ^ 62 ∧ -(2 ^ 62) ≤ j ∧ j < 2 ^ 62) ∧ R (Itr i (j - i).toNat) H1
theorem pi_range1 {a : Expr} {ta : TA} {p pos : Pos} (hg : Gl X "range") (hm : X.mg "range" = none) (ha : PA X [a] ta) (hs : starEach [a] X.env = [(false, eval a X.env)] := by rfl) : PI X tg (.Call (.Name "range" p) [a] [] pos) (iRng1 ta) := by
  intro pins s σ H R I h
  refine Call_ (ld_blt I hg hm boot_range (PyProof.Rows.callWith_type1 (thn (ha pos pins s σ H _ I h) fun us s1 ⟨vs, H1, I1, r1, q1⟩ => ?_) hs rfl))
  obtain ⟨j, e, q1, q2, q⟩ := q1
  subst e
  cases r1 with
  | cons r rr =>
    cases rr
    obtain ⟨t, rfl⟩ := r
    exact call_range_1 (range_it I1 (by lia) (by lia) q1 q2 (by simpa using q))
theorem pi_range2 {a b : Expr} {ta : TA} {p pos : Pos} (hg : Gl X "range") (hm : X.mg "range" = none) (ha : PA X [a, b] ta) (hs : starEach [a, b] X.env = [(false, eval a X.env), (false, eval b X.env)] := by rfl) (hs2 : starEach [b] X.env = [(false, eval b X.env)] := by rfl) :
    PI X tg (.Call (.Name "range" p) [a, b] [] pos) (iRng2 ta) := by
  intro pins s σ H R I h
  refine Call_ (ld_blt I hg hm boot_range (PyProof.Rows.callWith_type1 (thn (ha pos pins s σ H _ I h) fun us s1 ⟨vs, H1, I1, r1, q1⟩ => ?_) (by rw [hs, hs2]) (by rw [hs2]; rfl)))
  obtain ⟨i, j, e, ⟨q1, q2, q3, q4⟩, q⟩ := q1
  subst e
  cases r1 with
  | cons r rr =>
    cases rr with
    | cons r' rr =>
      cases rr
      obtain ⟨t, rfl⟩ := r
      obtain ⟨t', rfl⟩ := r'
      exact call_range_2 (range_it I1 q1 q2 q3 q4 q)

/-! ### for -/
/-- W: the invariant by the turn and a measure; N: what the body is to reach -/
noncomputable def tFor (wi : TI) (g : TG) (tb : TS) : TS := fun D σ H => wi σ H fun J H1 => ∃ W : Nat → Nat → St → Hp → Prop, (∃ m, W 0 m σ H1) ∧ ∀ i m σ H, W i m σ H →
  (J.stop i H ∧ D.nx σ H) ∨ (J.go i H ∧ ∃ N : St → Hp → Prop, (∀ σ' H', N σ' H' → ∃ m', m' < m ∧ W (i + 1) m' σ' H') ∧ ∀ x H', J.yld i H x H' → g x σ H' fun σ2 H2 => tb { D with nx := N, ct := N, bk := D.nx } σ2 H2)
/-- the records at fp as they stand -/
noncomputable def pinsAt (fp : List Addr) (h : Heap) : List (Addr × Obj) := fp.filterMap fun b => (h.get? b).map fun o => (b, o)
theorem mem_pinsAt {fp : List Addr} {h : Heap} {b : Addr} {o : Obj} (hb : b ∈ fp) (e : h.get? b = some o) : (b, o) ∈ pinsAt fp h := List.mem_filterMap.mpr ⟨b, hb, by rw [e]; rfl⟩
theorem of_pinsAt {fp : List Addr} {h : Heap} {p : Addr × Obj} (hp : p ∈ pinsAt fp h) : p.1 ∈ fp ∧ h.get? p.1 = some p.2 := by
  obtain ⟨b, hb, e⟩ := List.mem_filterMap.mp hp
  cases q : h.get? b with
  | none => rw [q] at e; cases e
  | some o =>
    rw [q] at e
    have e' : (b, o) = p := Option.some.inj e
    subst e'
    exact ⟨hb, q⟩
theorem Inv.pinned {pins : List (Addr × Obj)} {σ : St} {H : Hp} {s : Shared} {fp : List Addr} (I : Inv X pins σ H s) (hf : ∀ b ∈ fp, FpOk X pins H b) (ho : ∀ b ∈ fp, ∃ o, s.heap.get? b = some o ∧ ∀ v, o.data ≠ .cell v) : Inv X (pins ++ pinsAt fp s.heap) σ H s :=
  I.pins_of fun p hp => (List.mem_append.mp hp).elim (fun z => I.pin p (List.mem_append_right _ z)) fun z => by
    obtain ⟨hb, e⟩ := of_pinsAt z
    obtain ⟨f0, f1, f2, _⟩ := hf p.1 hb
    obtain ⟨o, e', d⟩ := ho p.1 hb
    rw [e] at e'; cases e'
    exact ⟨e, f0, f1, f2, d⟩
theorem Inv.unpinned {pins pl : List (Addr × Obj)} {σ : St} {H : Hp} {s : Shared} (I : Inv X (pins ++ pl) σ H s) : Inv X pins σ H s := I.pins_of fun p hp => I.pin p (List.mem_append_right _ (List.mem_append_left _ hp))
theorem ps_for {iter : Expr} {body : List Stmt} {wi : TI} {g : TG} {tb : TS} {pos : Pos} (hp : PassesOwn (model X.prog X.w) X.A X.env X.xe) (hc : X.calm = true) (hi : PI X tg iter wi) (hg : PG X tg g) (hb : PSs X body tb)
    (hs : ∀ x, foldedSetIterable iter X.env x = pure x := by intro _; rfl) : PS X (.For tg iter body [] pos) (tFor wi g tb) := by
  intro pins s σ H D I h
  refine wpAny_For (thn (hi pins s σ H _ I h) fun v s1 h1 => thn h1 fun itv s2 h2 => ?_) hs
  obtain ⟨it, fp, tn, J, H2, e, I2, T, st2, f2, W, ⟨m0, w0⟩, turn⟩ := h2
  subst e
  -- what stays true of the iterator's objects through the loop
  have stat : ∀ {H' : Hp}, (∀ b ∈ fp, H' b = none) → ∀ b ∈ fp, FpOk X pins H' b := fun hn b hb => ⟨hn b hb, (f2 b hb).2⟩
  refine codeAny_forLoop_any (fun n s' => ∃ i σ' H', Inv X pins σ' H' s' ∧ tn i s'.heap ∧ (∀ b ∈ fp, H' b = none) ∧ W i n σ' H') ?_ m0 ⟨0, σ, H2, I2, st2, fun b hb => (f2 b hb).1, w0⟩
  rintro n s3 ⟨i, σ3, H3, I3, st3, fr3, w3⟩
  rcases turn i n σ3 H3 w3 with ⟨stop, qn⟩ | ⟨go, N, hN, step⟩
  · refine wpAny_passesOwn hp (thn (T.done X rfl rfl rfl hc i pins s3 σ3 H3 X.xe I3 (stat fr3) st3 stop) fun r s4 ⟨hr, I4⟩ => ?_)
    subst hr
    exact wpAny_execs_nil ⟨σ3, H3, I4, qn⟩
  · refine wpAny_passesOwn hp (thn (T.item X rfl rfl rfl hc i pins s3 σ3 H3 X.xe I3 (stat fr3) st3 go) fun r s4 ⟨u, hr, h4⟩ => ?_)
    subst hr
    refine wpAny_passesOwn hp (thn h4 fun _ s5 ⟨x, H5, I5, r5, y5, st5, fr5⟩ => ?_)
    have I5' := I5.pinned (stat fr5) (T.obj _ _ st5)
    refine wpAny_passesOwn hp (thn (hg _ s5 σ3 H5 x u _ I5' r5 (step x H5 y5)) fun _ s6 ⟨σ6, H6, I6, q6⟩ => ?_)
    refine wpAny_passesOwn hp (thn (hb _ s6 σ6 H6 _ I6 q6) fun f s7 q7 => ?_)
    have again : ∀ {σ7 : St} {H7 : Hp}, Inv X (pins ++ pinsAt fp s5.heap) σ7 H7 s7 → N σ7 H7 → ∃ m, m < n ∧ ∃ i σ' H', Inv X pins σ' H' s7 ∧ tn i s7.heap ∧ (∀ b ∈ fp, H' b = none) ∧ W i m σ' H' := fun {σ7 H7} I7 n7 => by
      obtain ⟨m', hm, w7⟩ := hN σ7 H7 n7
      refine ⟨m', hm, i + 1, σ7, H7, I7.unpinned, T.keep _ _ _ st5 fun b hb o e => (I7.pin (b, o) (List.mem_append_right _ (List.mem_append_right _ (mem_pinsAt hb e)))).1, fun b hb => ?_, w7⟩
      obtain ⟨o, e, d⟩ := T.obj _ _ st5 b hb
      exact (I7.pin (b, o) (List.mem_append_right _ (List.mem_append_right _ (mem_pinsAt hb e)))).2.1
    cases f with
    | next => obtain ⟨σ7, H7, I7, n7⟩ := q7; exact again I7 n7
    | cont => obtain ⟨σ7, H7, I7, n7⟩ := q7; exact again I7 n7
    | brk => obtain ⟨σ7, H7, I7, q7⟩ := q7; exact ⟨σ7, H7, I7.unpinned, q7⟩
    | ret v => obtain ⟨x7, σ7, H7, I7, r7, q7⟩ := q7; exact ⟨x7, σ7, H7, I7.unpinned, r7, q7⟩
end

/-! ### the forms one uses -/
/-- over a list that the body leaves as it is -/
theorem for_list {K : PySem.W.Frag} {a : Addr} {xs : List V} {g : TG} {tb : TS} {D : Ends} {σ : St} {H : Hp} (Pv : Nat → St → Hp → Prop) (h0 : Pv 0 σ H) (hl : ∀ i σ H, i ≤ xs.length → Pv i σ H → SqL K H a xs)
    (hs : ∀ i x σ H, xs[i]? = some x → Pv i σ H → g x σ H fun σ2 H2 => tb { D with nx := Pv (i + 1), ct := Pv (i + 1), bk := D.nx } σ2 H2) (hd : ∀ σ H, Pv xs.length σ H → D.nx σ H) :
    ∃ W : Nat → Nat → St → Hp → Prop, (∃ m, W 0 m σ H) ∧ ∀ i m σ H, W i m σ H →
      ((Itl K a).stop i H ∧ D.nx σ H) ∨ ((Itl K a).go i H ∧ ∃ N : St → Hp → Prop, (∀ σ' H', N σ' H' → ∃ m', m' < m ∧ W (i + 1) m' σ' H') ∧ ∀ x H', (Itl K a).yld i H x H' → g x σ H' fun σ2 H2 => tb { D with nx := N, ct := N, bk := D.nx } σ2 H2) := by
  refine ⟨fun i m σ H => m = xs.length - i ∧ i ≤ xs.length ∧ Pv i σ H, ⟨xs.length, by simp, Nat.zero_le _, h0⟩, ?_⟩
  rintro i m σ H ⟨rfl, hi, p⟩
  have q := hl i σ H hi p
  by_cases hlt : i < xs.length
  · refine .inr ⟨⟨xs, xs[i], q, by simp [hlt]⟩, Pv (i + 1), fun σ' H' p' => ⟨xs.length - (i + 1), by lia, rfl, hlt, p'⟩, fun x H' y => ?_⟩
    obtain ⟨e, y⟩ := y
    subst e
    exact hs i x σ _ (y xs q) p
  · have e : i = xs.length := by lia
    subst e
    exact .inl ⟨⟨xs, q, Nat.le_refl _⟩, hd σ H p⟩
theorem for_range {lo : Int} {n : Nat} {g : TG} {tb : TS} {D : Ends} {σ : St} {H : Hp} (Pv : Nat → St → Hp → Prop) (h0 : Pv 0 σ H)
    (hs : ∀ i σ H, i < n → Pv i σ H → g (.int (lo + i)) σ H fun σ2 H2 => tb { D with nx := Pv (i + 1), ct := Pv (i + 1), bk := D.nx } σ2 H2) (hd : ∀ σ H, Pv n σ H → D.nx σ H) :
    ∃ W : Nat → Nat → St → Hp → Prop, (∃ m, W 0 m σ H) ∧ ∀ i m σ H, W i m σ H →
      ((Itr lo n).stop i H ∧ D.nx σ H) ∨ ((Itr lo n).go i H ∧ ∃ N : St → Hp → Prop, (∀ σ' H', N σ' H' → ∃ m', m' < m ∧ W (i + 1) m' σ' H') ∧ ∀ x H', (Itr lo n).yld i H x H' → g x σ H' fun σ2 H2 => tb { D with nx := N, ct := N, bk := D.nx } σ2 H2) := by
  refine ⟨fun i m σ H => m = n - i ∧ i ≤ n ∧ Pv i σ H, ⟨n, by simp, Nat.zero_le _, h0⟩, ?_⟩
  rintro i m σ H ⟨rfl, hi, p⟩
  by_cases hlt : i < n
  · refine .inr ⟨hlt, Pv (i + 1), fun σ' H' p' => ⟨n - (i + 1), by lia, rfl, hlt, p'⟩, fun x H' y => ?_⟩
    obtain ⟨e, y⟩ := y
    subst e y
    exact hs i σ _ hlt p
  · have e : i = n := by lia
    subst e
    exact .inl ⟨Nat.le_refl _, hd σ H p⟩
end L2

namespace L2
open PySem PySem.Spec PyProof.Rows

noncomputable abbrev R2 := V → V → Hp → VK → Prop
/-- a two-place operation on values: f is binaryOp op, inplaceOp op or compareOp op -/
noncomputable def OpR (X : Cx) (f : Value → Value → Sem Value) (r : R2) : Prop :=
  ∀ (pins : List (Addr × Obj)) (s : Shared) (σ : St) (H : Hp) (x y : V) (v u : Value) (Q : VK), Inv X pins σ H s → RelV x v → RelV y u → r x y H Q →
    wpAny (model X.prog X.w) X.A (f v u) (EP X pins σ Q) X.xe s
/-- a one-place operation -/
noncomputable def UnR (X : Cx) (f : Value → Sem Value) (r : V → Hp → VK → Prop) : Prop :=
  ∀ (pins : List (Addr × Obj)) (s : Shared) (σ : St) (H : Hp) (x : V) (v : Value) (Q : VK), Inv X pins σ H s → RelV x v → r x H Q →
    wpAny (model X.prog X.w) X.A (f v) (EP X pins σ Q) X.xe s
/-- a call of a value that is known (a builtin, a type) with values -/
noncomputable def CallR (X : Cx) (f : Value) (r : List V → Hp → VK → Prop) : Prop :=
  ∀ (pins : List (Addr × Obj)) (s : Shared) (σ : St) (H : Hp) (xs : List V) (us : List Value) (Q : VK), Inv X pins σ H s → Vals xs us → r xs H Q →
    wpAny (model X.prog X.w) X.A (call f us) (EP X pins σ Q) X.xe s

noncomputable def tOp (r : R2) (ta tb : TE) : TE := fun σ H Q => ta σ H fun x H1 => tb σ H1 fun y H2 => r x y H2 Q
noncomputable def tUn (r : V → Hp → VK → Prop) (ta : TE) : TE := fun σ H Q => ta σ H fun x H1 => r x H1 Q
/-- ints in, under C, and a value out -/
noncomputable def rI (C : Int → Int → Prop) (g : Int → Int → V) : R2 := fun x y H Q => ∃ i j, x = .int i ∧ y = .int j ∧ C i j ∧ Q (g i j) H
noncomputable def rI0 (g : Int → Int → V) : R2 := fun x y H Q => ∃ i j, x = .int i ∧ y = .int j ∧ Q (g i j) H
noncomputable def rU (g : Int → V) : V → Hp → VK → Prop := fun x H Q => ∃ i, x = .int i ∧ Q (g i) H

section
variable {X : Cx} {a b c : Expr} {ta tb tc : TE} {pos : Pos}

theorem binT (ha : PE X a ta) (hb : PE X b tb) {pins : List (Addr × Obj)} {s : Shared} {σ : St} {H : Hp} {R : V → V → Hp → Prop} (I : Inv X pins σ H s)
    (h : ta σ H fun x H1 => tb σ H1 fun y H2 => R x y H2) {Q : Value → Shared → Prop} {f : Value → Value → Sem Value}
    (hf : ∀ v u s2 x y H2, Inv X pins σ H2 s2 → RelV x v → RelV y u → R x y H2 → wpAny (model X.prog X.w) X.A (f v u) Q X.xe s2) :
    wpAny (model X.prog X.w) X.A (eval a X.env) (fun v s₁ => wpAny (model X.prog X.w) X.A (eval b X.env) (fun u s₂ => wpAny (model X.prog X.w) X.A (f v u) Q X.xe s₂) X.xe s₁) X.xe s := by
  refine thn (ha pins s σ H _ I h) fun v s1 ⟨x, H1, I1, r1, q1⟩ => ?_
  refine thn (hb pins s1 σ H1 _ I1 q1) fun u s2 ⟨y, H2, I2, r2, q2⟩ => ?_
  exact hf v u s2 x y H2 I2 r1 r2 q2

theorem pe_op {op : Operator} {r : R2} (ho : OpR X (binaryOp op) r) (ha : PE X a ta) (hb : PE X b tb) : PE X (.BinOp a op b pos) (tOp r ta tb) := by
  intro pins s σ H Q I h
  exact wpAny_BinOp (binT ha hb I h fun v u s2 x y H2 I2 rx ry q => ho pins s2 σ H2 x y v u Q I2 rx ry q)
theorem pe_un {op : UnaryOp} {r : V → Hp → VK → Prop} (ho : UnR X (unaryOp op) r) (ha : PE X a ta) : PE X (.UnaryOp op a pos) (tUn r ta) := by
  intro pins s σ H Q I h
  exact UnaryOp_ (thn (ha pins s σ H _ I h) fun v s1 ⟨x, H1, I1, r1, q1⟩ => ho pins s1 σ H1 x v Q I1 r1 q1)

/-! ### ints -/
theorem opI {f : Value → Value → Sem Value} {C : Int → Int → Prop} {g : Int → Int → Int}
    (rule : ∀ (i j : Int) (t u : Tok) (s : Shared) (Q : Value → Shared → Prop) (E : Value → Shared → Prop), C i j → Q (.int (g i j) s.toks) { s with toks := s.toks + 1 } → wpAny (model X.prog X.w) X.A (f (.int i t) (.int j u)) Q E s) :
    OpR X f (rI C fun i j => .int (g i j)) := by
  intro pins s σ H x y v u Q I rx ry h
  obtain ⟨i, j, rfl, rfl, hc, q⟩ := h
  obtain ⟨t, rfl⟩ := rx
  obtain ⟨t', rfl⟩ := ry
  exact rule i j t t' s _ _ hc ⟨.int (g i j), H, I.tok _, ⟨_, rfl⟩, q⟩
theorem opI0 {f : Value → Value → Sem Value} {g : Int → Int → Int}
    (rule : ∀ (i j : Int) (t u : Tok) (s : Shared) (Q : Value → Shared → Prop) (E : Value → Shared → Prop), Q (.int (g i j) s.toks) { s with toks := s.toks + 1 } → wpAny (model X.prog X.w) X.A (f (.int i t) (.int j u)) Q E s) :
    OpR X f (rI0 fun i j => .int (g i j)) := by
  intro pins s σ H x y v u Q I rx ry h
  obtain ⟨i, j, rfl, rfl, q⟩ := h
  obtain ⟨t, rfl⟩ := rx
  obtain ⟨t', rfl⟩ := ry
  exact rule i j t t' s _ _ ⟨.int (g i j), H, I.tok _, ⟨_, rfl⟩, q⟩
theorem opB0 {f : Value → Value → Sem Value} {g : Int → Int → Bool}
    (rule : ∀ (i j : Int) (t u : Tok) (s : Shared) (Q : Value → Shared → Prop) (E : Value → Shared → Prop), Q (.bool (g i j)) s → wpAny (model X.prog X.w) X.A (f (.int i t) (.int j u)) Q E s) :
    OpR X f (rI0 fun i j => .bl (g i j)) := by
  intro pins s σ H x y v u Q I rx ry h
  obtain ⟨i, j, rfl, rfl, q⟩ := h
  obtain ⟨t, rfl⟩ := rx
  obtain ⟨t', rfl⟩ := ry
  exact rule i j t t' s _ _ ⟨.bl (g i j), H, I, rfl, q⟩

noncomputable def CDiv (i j : Int) : Prop := 0 < j ∧ j < 1073741824
noncomputable def CPow (i j : Int) : Prop := 0 ≤ j ∧ j ≤ 1000000 ∧ i.natAbs < 2 ^ 64
noncomputable def CMul (i j : Int) : Prop := (-(2 ^ 64) < i ∧ i < 2 ^ 64) ∨ (-(2 ^ 64) < j ∧ j < 2 ^ 64)
theorem CMul.ok {i j : Int} (h : CMul i j) : IntMulOk i j := by
  rcases h with ⟨h1, h2⟩ | ⟨h1, h2⟩
  · exact .of_left (intBits_le_64 h1 h2)
  · exact .of_right (intBits_le_64 h1 h2)

theorem op_add : OpR X (binaryOp .Add) (rI0 fun i j => .int (i + j)) := opI0 fun _ _ _ _ _ _ _ q => add_int q
theorem op_sub : OpR X (binaryOp .Sub) (rI0 fun i j => .int (i - j)) := opI0 fun _ _ _ _ _ _ _ q => sub_int q
theorem op_mul : OpR X (binaryOp .Mult) (rI CMul fun i j => .int (i * j)) := opI fun _ _ _ _ _ _ _ hc q => mul_int q hc.ok
/-- // by a positive divisor -/
theorem op_fdiv : OpR X (binaryOp .FloorDiv) (rI CDiv fun i j => .int (i / j)) := opI fun i j _ _ _ _ _ hc q => by
  have h1 : (0 : Int) < j := hc.1
  have h2 : j < 1073741824 := hc.2
  exact floordiv_int (by lia) (by rw [Int.fdiv_eq_ediv_of_nonneg i (by lia)]; exact q) (.inl (PyProof.noPylong_small (by lia)))
/-- % by a positive divisor of any size -/
theorem op_mod : OpR X (binaryOp .Mod) (rI (fun _ j => 0 < j) fun i j => .int (i % j)) := opI fun i j _ _ _ _ _ hc q => by
  have h1 : (0 : Int) < j := hc
  exact mod_int' (by lia) (by rw [Int.fmod_eq_emod_of_nonneg i (by lia)]; exact q)
theorem op_pow : OpR X (binaryOp .Pow) (rI CPow fun i j => .int (i ^ j.toNat)) := opI fun _ _ _ _ _ _ _ hc q => pow_int_small hc.1 hc.2.1 hc.2.2 q

theorem iop_add : OpR X (inplaceOp .Add) (rI0 fun i j => .int (i + j)) := opI0 fun _ _ _ _ _ _ _ q => iadd_int q
theorem iop_mul : OpR X (inplaceOp .Mult) (rI CMul fun i j => .int (i * j)) := opI fun _ _ _ _ _ _ _ hc q => imul_int q hc.ok

theorem unI {f : Value → Sem Value} {g : Int → Int}
    (rule : ∀ (i : Int) (t : Tok) (s : Shared) (Q : Value → Shared → Prop) (E : Value → Shared → Prop), Q (.int (g i) s.toks) { s with toks := s.toks + 1 } → wpAny (model X.prog X.w) X.A (f (.int i t)) Q E s) :
    UnR X f (rU fun i => .int (g i)) := by
  intro pins s σ H x v Q I rx h
  obtain ⟨i, rfl, q⟩ := h
  obtain ⟨t, rfl⟩ := rx
  exact rule i t s _ _ ⟨.int (g i), H, I.tok _, ⟨_, rfl⟩, q⟩
theorem un_neg : UnR X (unaryOp .USub) (rU fun i => .int (-i)) := unI fun _ _ _ _ _ q => neg_int q

/-! ### bools among ints: n += (a < b) -/
end

/-! ### comparisons -/
/-- the scalars that == tells apart as data does -/
noncomputable def scal : V → V → Bool
  | .non, .non => true | .non, .int _ => true | .int _, .non => true | .non, .bl _ => true | .bl _, .non => true | .non, .str _ => true | .str _, .non => true
  | .int _, .int _ => true | .bl _, .bl _ => true | .str _, .str _ => true | .byt _, .byt _ => true
  | .int _, .str _ => true | .str _, .int _ => true | .bl _, .str _ => true | .str _, .bl _ => true
  | _, _ => false
noncomputable def rEq : R2 := fun x y H Q => scal x y = true ∧ Q (.bl (decide (x = y))) H
noncomputable def rNe : R2 := fun x y H Q => scal x y = true ∧ Q (.bl (!decide (x = y))) H

theorem dec_int {i j : Int} : decide (V.int i = V.int j) = (i == j) := by
  rw [Bool.eq_iff_iff]
  simp
theorem dec_bl {i j : Bool} : decide (V.bl i = V.bl j) = (i == j) := by
  rw [Bool.eq_iff_iff]
  simp
theorem dec_str {i j : Str} : decide (V.str i = V.str j) = (i == j) := by
  rw [Bool.eq_iff_iff]
  simp
theorem dec_byt {i j : Array UInt8} : decide (V.byt i = V.byt j) = (i.toList == j.toList) := by
  rw [Bool.eq_iff_iff]
  cases i
  cases j
  simp

section
variable {X : Cx} {a b c : Expr} {ta tb tc : TE} {pos : Pos}
theorem fin_bl {pins : List (Addr × Obj)} {σ : St} {H : Hp} {s : Shared} {Q : VK} {k k' : Bool} (I : Inv X pins σ H s) (q : Q (.bl k) H) (e : k = k') : EP X pins σ Q (.bool k') s := by
  subst e
  exact ⟨.bl k, H, I, rfl, q⟩
theorem op_eq : OpR X (compareOp .Eq) rEq := by
  intro pins s σ H x y v u Q I rx ry h
  obtain ⟨hs, q⟩ := h
  cases x with
  | non =>
    cases rx
    cases y with
    | non => cases ry; exact PySem.EqNone.eq_none_none (fin_bl I q (by simp))
    | bl j => cases ry; exact PySem.EqNone.eq_none_bool (fin_bl I q (by simp))
    | int j => obtain ⟨t', rfl⟩ := ry; exact PySem.EqNone.eq_none_int (fin_bl I q (by simp))
    | str j => obtain ⟨t', rfl⟩ := ry; exact PySem.EqNone.eq_none_str (fin_bl I q (by simp))
    | _ => exact absurd (show false = true from hs) Bool.false_ne_true
  | bl i =>
    cases rx
    cases y with
    | non => cases ry; exact PySem.EqNone.eq_bool_none (fin_bl I q (by simp))
    | bl j => cases ry; exact eq_bool (fin_bl I q dec_bl)
    | str j => obtain ⟨t', rfl⟩ := ry; exact PySem.EqMixed.eq_bool_str (fin_bl I q (by simp))
    | _ => exact absurd (show false = true from hs) Bool.false_ne_true
  | int i =>
    obtain ⟨t, rfl⟩ := rx
    cases y with
    | non => cases ry; exact PySem.EqNone.eq_int_none (fin_bl I q (by simp))
    | int j => obtain ⟨t', rfl⟩ := ry; exact eq_int (fin_bl I q dec_int)
    | str j => obtain ⟨t', rfl⟩ := ry; exact PySem.EqMixed.eq_int_str (fin_bl I q (by simp))
    | _ => exact absurd (show false = true from hs) Bool.false_ne_true
  | str i =>
    obtain ⟨t, rfl⟩ := rx
    cases y with
    | non => cases ry; exact PySem.EqNone.eq_str_none (fin_bl I q (by simp))
    | bl j => cases ry; exact PySem.EqMixed.eq_str_bool (fin_bl I q (by simp))
    | int j => obtain ⟨t', rfl⟩ := ry; exact PySem.EqMixed.eq_str_int (fin_bl I q (by simp))
    | str j => obtain ⟨t', rfl⟩ := ry; exact eq_str (fin_bl I q dec_str)
    | _ => exact absurd (show false = true from hs) Bool.false_ne_true
  | byt i =>
    obtain ⟨t, rfl⟩ := rx
    cases y with
    | byt j => obtain ⟨t', rfl⟩ := ry; exact PySem.W.eq_bytes (fin_bl I q dec_byt)
    | _ => exact absurd (show false = true from hs) Bool.false_ne_true
  | _ => cases y <;> exact absurd (show false = true from hs) Bool.false_ne_true
theorem op_ne : OpR X (compareOp .NotEq) rNe := by
  intro pins s σ H x y v u Q I rx ry h
  obtain ⟨hs, q⟩ := h
  cases x with
  | non =>
    cases rx
    cases y with
    | non => cases ry; exact PySem.EqNone.ne_none_none (fin_bl I q (by simp))
    | bl j => cases ry; exact PySem.EqNone.ne_none_bool (fin_bl I q (by simp))
    | int j => obtain ⟨t', rfl⟩ := ry; exact PySem.EqNone.ne_none_int (fin_bl I q (by simp))
    | str j => obtain ⟨t', rfl⟩ := ry; exact PySem.EqNone.ne_none_str (fin_bl I q (by simp))
    | _ => exact absurd (show false = true from hs) Bool.false_ne_true
  | bl i =>
    cases rx
    cases y with
    | non => cases ry; exact PySem.EqNone.ne_bool_none (fin_bl I q (by simp))
    | bl j => cases ry; exact ne_bool (fin_bl I q (congrArg not dec_bl))
    | str j => obtain ⟨t', rfl⟩ := ry; exact PySem.EqMixed.ne_bool_str (fin_bl I q (by simp))
    | _ => exact absurd (show false = true from hs) Bool.false_ne_true
  | int i =>
    obtain ⟨t, rfl⟩ := rx
    cases y with
    | non => cases ry; exact PySem.EqNone.ne_int_none (fin_bl I q (by simp))
    | int j => obtain ⟨t', rfl⟩ := ry; exact ne_int (fin_bl I q (congrArg not dec_int))
    | str j => obtain ⟨t', rfl⟩ := ry; exact PySem.EqMixed.ne_int_str (fin_bl I q (by simp))
    | _ => exact absurd (show false = true from hs) Bool.false_ne_true
  | str i =>
    obtain ⟨t, rfl⟩ := rx
    cases y with
    | non => cases ry; exact PySem.EqNone.ne_str_none (fin_bl I q (by simp))
    | bl j => cases ry; exact PySem.EqMixed.ne_str_bool (fin_bl I q (by simp))
    | int j => obtain ⟨t', rfl⟩ := ry; exact PySem.EqMixed.ne_str_int (fin_bl I q (by simp))
    | str j => obtain ⟨t', rfl⟩ := ry; exact ne_str (fin_bl I q (congrArg not dec_str))
    | _ => exact absurd (show false = true from hs) Bool.false_ne_true
  | byt i =>
    obtain ⟨t, rfl⟩ := rx
    cases y with
    | byt j => obtain ⟨t', rfl⟩ := ry; exact PySem.W.ne_bytes (fin_bl I q (congrArg not dec_byt))
    | _ => exact absurd (show false = true from hs) Bool.false_ne_true
  | _ => cases y <;> exact absurd (show false = true from hs) Bool.false_ne_true

theorem op_lt : OpR X (compareOp .Lt) (rI0 fun i j => .bl (decide (i < j))) := opB0 fun _ _ _ _ _ _ _ q => lt_int q
theorem op_le : OpR X (compareOp .LtE) (rI0 fun i j => .bl (decide (i ≤ j))) := opB0 fun _ _ _ _ _ _ _ q => le_int q
theorem op_gt : OpR X (compareOp .Gt) (rI0 fun i j => .bl (decide (j < i))) := opB0 fun _ _ _ _ _ _ _ q => gt_int q
theorem op_ge : OpR X (compareOp .GtE) (rI0 fun i j => .bl (decide (j ≤ i))) := opB0 fun _ _ _ _ _ _ _ q => ge_int q




theorem nomark (b : Expr) {op : CmpOp} (h : op ≠ .In := by decide) (h2 : op ≠ .NotIn := by decide) : behindInMarks op b = false := by
  have e1 : (op == CmpOp.In) = false := by cases op <;> first | rfl | exact absurd rfl h
  have e2 : (op == CmpOp.NotIn) = false := by cases op <;> first | rfl | exact absurd rfl h2
  cases b <;> simp [behindInMarks, e1, e2]
/-- a comparison as a value; hm: nomark b, or (for in, not in) by with_unfolding_all rfl -/
theorem pe_cmpR {op : CmpOp} {r : R2} (ho : OpR X (compareOp op) r) (ha : PE X a ta) (hb : PE X b tb) (hm : behindInMarks op b = false) : PE X (.Compare a [op] [b] pos) (tOp r ta tb) := by
  intro pins s σ H Q I h
  exact wpAny_Compare1 (binT ha hb I h fun v u s2 x y H2 I2 rx ry q => ho pins s2 σ H2 x y v u Q I2 rx ry q) hm
/-- a reading of a value as a test -/
noncomputable def tTest (t : TE) : TT := fun σ H Q => t σ H fun x H' => ∃ k, x = .bl k ∧ Q k H'
theorem pt_cmpR {op : CmpOp} {r : R2} (ho : OpR X (compareOp op) r) (ha : PE X a ta) (hb : PE X b tb) (hm : behindInMarks op b = false) : PT X (.Compare a [op] [b] pos) (tTest (tOp r ta tb)) := by
  intro pins s σ H Q I h
  refine wpAny_isTrue_Compare1 (thn (ha pins s σ H _ I h) fun v s1 ⟨x, H1, I1, r1, q1⟩ => thn (hb pins s1 σ H1 _ I1 q1) fun u s2 ⟨y, H2, I2, r2, q2⟩ =>
    thn (ho pins s2 σ H2 x y v u _ I2 r1 r2 q2) fun c s3 ⟨z, H3, I3, r3, k, e, q3⟩ => ?_) hm
  subst e
  cases r3
  exact wpAny_truthy_bool ⟨H3, I3, q3⟩
/-- a op1 b op2 c -/
noncomputable def tChain (r r' : R2) (ta tb tc : TE) : TE := fun σ H Q => ta σ H fun x H1 => tb σ H1 fun y H2 => r x y H2 fun z H3 => ∃ k, z = .bl k ∧
  (if k = true then tc σ H3 fun w' H4 => r' y w' H4 Q else Q (.bl false) H3)
theorem pe_chain {op op' : CmpOp} {r r' : R2} (ho : OpR X (compareOp op) r) (ho' : OpR X (compareOp op') r') (ha : PE X a ta) (hb : PE X b tb) (hc : PE X c tc)
    (hm : lastMarks [op, op'] [b, c] = false := by with_unfolding_all rfl) : PE X (.Compare a [op, op'] [b, c] pos) (tChain r r' ta tb tc) := by
  intro pins s σ H Q I h
  refine Compare_chain (thn (ha pins s σ H _ I h) fun v s1 ⟨x, H1, I1, r1, q1⟩ => chain_link (thn (hb pins s1 σ H1 _ I1 q1) fun u s2 ⟨y, H2, I2, r2, q2⟩ =>
    thn (ho pins s2 σ H2 x y v u _ I2 r1 r2 q2) fun d s3 ⟨z, H3, I3, r3, k, e, q3⟩ => ?_)) hm
  subst e
  cases r3
  refine wpAny_truthy_bool ?_
  cases k with
  | false => exact ite_ff ⟨.bl false, H3, I3, rfl, q3⟩
  | true => exact ite_tt (chain_last (thn (hc pins s3 σ H3 _ I3 q3) fun w' s4 ⟨z', H4, I4, r4, q4⟩ => ho' pins s4 σ H4 y z' u w' Q I4 r2 r4 q4))
theorem pt_chain {op op' : CmpOp} {r r' : R2} (ho : OpR X (compareOp op) r) (ho' : OpR X (compareOp op') r') (ha : PE X a ta) (hb : PE X b tb) (hc : PE X c tc)
    (hm : lastMarks [op, op'] [b, c] = false := by with_unfolding_all rfl) : PT X (.Compare a [op, op'] [b, c] pos) (tTest (tChain r r' ta tb tc)) := by
  intro pins s σ H Q I h
  refine isTrue_chain (thn (ha pins s σ H _ I h) fun v s1 ⟨x, H1, I1, r1, q1⟩ => test_link (thn (hb pins s1 σ H1 _ I1 q1) fun u s2 ⟨y, H2, I2, r2, q2⟩ =>
    thn (ho pins s2 σ H2 x y v u _ I2 r1 r2 q2) fun d s3 ⟨z, H3, I3, r3, k, e, q3⟩ => ?_)) hm
  subst e
  cases r3
  refine wpAny_truthy_bool ?_
  cases k with
  | false =>
    obtain ⟨k', e', q'⟩ := q3
    cases e'
    exact ite_ff ⟨H3, I3, q'⟩
  | true =>
    refine ite_tt (test_last (thn (hc pins s3 σ H3 _ I3 q3) fun w' s4 ⟨z', H4, I4, r4, q4⟩ => thn (ho' pins s4 σ H4 y z' u w' _ I4 r2 r4 q4) fun d' s5 ⟨z2, H5, I5, r5, k2, e2, q5⟩ => ?_))
    subst e2
    cases r5
    exact wpAny_truthy_bool ⟨H5, I5, q5⟩

/-! ### truth -/
theorem line63 : (sizeLine : Nat) < 2 ^ 63 := by rw [sizeLine_eq]; decide

/-! ### strs and bytes -/


/-! ### scalar builtins, by CallR -/
theorem vals1 {x : V} {us : List Value} (r : Vals [x] us) : ∃ u, us = [u] ∧ RelV x u := by
  cases r with
  | cons r1 r2 => cases r2; exact ⟨_, rfl, r1⟩
theorem vals2 {x y : V} {us : List Value} (r : Vals [x, y] us) : ∃ u w', us = [u, w'] ∧ RelV x u ∧ RelV y w' := by
  cases r with
  | cons r1 r2 =>
    cases r2 with
    | cons r3 r4 => cases r4; exact ⟨_, _, rfl, r1, r3⟩
theorem call_abs : CallR X (.builtin "abs") (fun xs H Q => ∃ i, xs = [.int i] ∧ Q (.int (if i < 0 then -i else i)) H) := by
  intro pins s σ H xs us Q I r h
  obtain ⟨i, rfl, q⟩ := h
  obtain ⟨u, rfl, t, rfl⟩ := vals1 r
  exact call_abs_int fun u tk => ⟨.int (if i < 0 then -i else i), H, I.tok _, ⟨_, rfl⟩, q⟩
theorem call_max2 (hc : X.calm = true) : CallR X (.builtin "max") (fun xs H Q => ∃ i j, xs = [.int i, .int j] ∧ Q (.int (if j > i then j else i)) H) := by
  intro pins s σ H xs us Q I r h
  obtain ⟨i, j, rfl, q⟩ := h
  obtain ⟨u, w', rfl, ⟨t, rfl⟩, ⟨t', rfl⟩⟩ := vals2 r
  refine max_two_ints (I.ok.hd hc) fun h' tk k => ⟨_, H, I.kept k, ?_, q⟩
  by_cases hj : j > i
  · rw [if_pos hj, if_pos hj]; exact ⟨_, rfl⟩
  · rw [if_neg hj, if_neg hj]; exact ⟨_, rfl⟩
theorem call_min2 (hc : X.calm = true) : CallR X (.builtin "min") (fun xs H Q => ∃ i j, xs = [.int i, .int j] ∧ Q (.int (if j < i then j else i)) H) := by
  intro pins s σ H xs us Q I r h
  obtain ⟨i, j, rfl, q⟩ := h
  obtain ⟨u, w', rfl, ⟨t, rfl⟩, ⟨t', rfl⟩⟩ := vals2 r
  refine min_two_ints (I.ok.hd hc) fun h' tk k => ⟨_, H, I.kept k, ?_, q⟩
  by_cases hj : j < i
  · rw [if_pos hj, if_pos hj]; exact ⟨_, rfl⟩
  · rw [if_neg hj, if_neg hj]; exact ⟨_, rfl⟩
end
end L2

namespace L2
open PySem PySem.Spec PyProof.Rows

/-! ### an instance, its attributes a map -/
structure ObjM (h : Heap) (x dx C : Addr) (mA : Str → Option Value) : Prop where
  obj : h.get? x = some (PySem.W.instObj C dx)
  ns : h.Ns1 dx mA
  ne : dx ≠ x



section
variable {prog : Program} {w : World} {A : Around} {E : Value → Shared → Prop} {s : Shared} {K : PySem.W.Frag} {x dx C f : Addr} {mA : Str → Option Value} {name : Str} {v : Value}





end

/-! ### the attributes as a list of pairs -/


section
variable {P : Program} {w : World} {H H' : Hp} {h h' : Heap} {a C dx : Addr} {fs fs' : List (Str × V)}
end

/-! ### what of the text a class must have -/
structure Cls (K : PySem.W.Frag) (C : Addr) : Prop where
  pg : PySem.W.plainGet K C Str.empty = true
  hd : PySem.W.hasDictIn K C = true
  po : PySem.W.plainOver K C = true
  sa : PySem.W.findIn K (.ref C) "__setattr__" = some (some (.builtin "object.__setattr__"))
/-- a constant of the class -/
structure Con (K : PySem.W.Frag) (C : Addr) (f : Str) (v : V) (u : Value) : Prop where
  at_ : PySem.W.findIn K (.ref C) f = some (some u)
  rel : RelV v u
  get : PySem.W.specialIn K u "__get__" = some none
  cp : PySem.W.copiedNames.contains f = false
/-- a method: a plain def of the class or of one above it -/
structure Meth (K : PySem.W.Frag) (C : Addr) (m : Str) (f : Addr) : Prop where
  at_ : PySem.W.findIn K (.ref C) m = some (some (.ref f))
  fn : PySem.W.isFn K (.ref f) = true
  kp : PySem.W.keepIn K (.ref f) = true

section
variable {X : Cx} {pins : List (Addr × Obj)} {σ : St} {H : Hp} {s : Shared} {a C dx : Addr} {fs : List (Str × V)} {f : Str} {v : V} {A : Around} {E : Value → Shared → Prop}






end

/-! ### readings and rules -/

section
variable {X : Cx} {o e value : Expr} {f : Str} {pos pos' tpos : Pos} {ta tv : TE}

end

/-! ### isinstance -/
section
variable {X : Cx} {pins : List (Addr × Obj)} {σ : St} {H : Hp} {s : Shared} {A : Around} {E : Value → Shared → Prop} {Q : Value → Shared → Prop} {c : Value} {b : Bool}
/-- the type of a value, as the fragment's deciders take it; for an instance its class -/
inductive TyOf (K : PySem.W.Frag) (H : Hp) : V → Value → Prop where
  | non : TyOf K H .non (.type "NoneType")
  | bl (x : Bool) : TyOf K H (.bl x) (.type "bool")
  | int (i : Int) : TyOf K H (.int i) (.type "int")
  | str (x : Str) : TyOf K H (.str x) (.type "str")
  | flt (x : UInt64) : TyOf K H (.flt x) (.type "float")
  | lst {a : Addr} {xs : List V} (e : H a = some (.lst xs)) : TyOf K H (.ref a) (.type "list")
  | frz {a : Addr} {o : Obj} {xs : List V} (e : H a = some (.frz o (.lst xs))) : TyOf K H (.ref a) (.type "list")
  | tup {a : Addr} {xs : List V} (e : H a = some (.tup xs)) : TyOf K H (.ref a) (.type "tuple")
  | dK {a : Addr} {kvs : List (Key × V)} (e : H a = some (.dK kvs)) : TyOf K H (.ref a) (.type "dict")
  | dT {a : Addr} {kvs : List (List Key × V)} (e : H a = some (.dT kvs)) : TyOf K H (.ref a) (.type "dict")
  | ins {a C dx : Addr} {fs : List (Str × V)} (e : H a = some (.ins C dx fs)) (cl : Cls K C) (ha : PySem.W.findIn K (.ref C) "__class__" = some (some (.builtin "object.__class__")))
      (hn : PySem.W.specialIn K (.builtin "object.__class__") "__get__" = some (some (.builtin "getset_descriptor.__get__"))) (htk : PySem.W.takesIn K (.builtin "object.__class__") = some true)
      (hm : PySem.W.mroIn K C (.type "object") = some true) : TyOf K H (.ref a) (.ref C)
end
end L2

namespace L2
open PySem PySem.Spec PyProof.Rows

/-! ### room -/
structure Room (k : Nat) (A : Around) : Prop where
  hd : A.handled = none
  dp : A.depth + 3 * k + 5 < recursionLimit
  un : A.units + 16 * k + 200 < cLine
  gd : A.guards = some []
theorem Room.mono {j k : Nat} {A : Around} (r : Room k A) (h : j ≤ k) : Room j A := ⟨r.hd, by have := r.dp; lia, by have := r.un; lia, r.gd⟩
theorem Room.deeper {k : Nat} {A : Around} (r : Room (k + 1) A) (env : Env) : Room k (A.deeper env) :=
  ⟨r.hd, by have := r.dp; show A.depth + 1 + 3 * k + 5 < _; lia, by have := r.un; show A.units + 3 + 16 * k + 200 < _; lia, r.gd⟩
theorem Room.depth {k : Nat} {A : Around} (r : Room k A) : A.depth < recursionLimit := by have := r.dp; lia
theorem Room.units {k : Nat} {A : Around} (r : Room k A) : A.units + 64 < cLine := by have := r.un; lia
theorem Room.units0 {k : Nat} {A : Around} (r : Room k A) : A.units < cLine := by have := r.un; lia

/-! ### argument lists and displays -/
noncomputable def tNil : TA := fun _ H Q => Q [] H
noncomputable def tCons (ta : TE) (tr : TA) : TA := fun σ H Q => ta σ H fun x H1 => tr σ H1 fun xs H2 => Q (x :: xs) H2
section
variable {X : Cx} {e : Expr} {es : List Expr} {te : TE} {t : TA} {pos : Pos}
theorem pa_nil : PA X [] tNil := fun _ _ _ _ H Q I h => Calls.spliced_nil ⟨[], H, I, .nil, h⟩
theorem pa_cons (ha : PE X e te) (hr : PA X es t) (hs : starEach (e :: es) X.env = (false, eval e X.env) :: starEach es X.env := by rfl) : PA X (e :: es) (tCons te t) := by
  intro pos pins s σ H Q I h
  rw [hs]
  show wpAny _ _ (spliced ((false, eval e X.env) :: backTo pos (starEach es X.env))) _ _ s
  refine Calls.spliced_cons (thn (ha pins s σ H _ I h) fun u s1 ⟨x, H1, I1, r1, q1⟩ => ?_)
  exact thn (hr pos pins s1 σ H1 _ I1 q1) fun us s2 ⟨xs, H2, I2, r2, q2⟩ => ⟨x :: xs, H2, I2, .cons r1 r2, q2⟩

/-- a tuple, a list of written items -/
noncomputable def tTup (t : TA) : TE := fun σ H Q => t σ H fun xs H1 => xs.length ≤ sizeLine ∧ ∀ p, H1 p = none → Q (.ref p) (upd H1 p (.tup xs))
noncomputable def tLst (t : TA) : TE := fun σ H Q => t σ H fun xs H1 => xs.length ≤ sizeLine ∧ ∀ p, H1 p = none → Q (.ref p) (upd H1 p (.lst xs))
theorem pe_tup {x1} (h : PA X es t) : PE X (.Tuple es x1 pos) (tTup t) := by
  intro pins s σ H Q I hq
  refine wpAny_Tuple_spliced (thn (h pos pins s σ H _ I hq) fun us s1 ⟨xs, H1, I1, r, z, q⟩ => ⟨by rw [← r.length]; exact z, ?_⟩)
  have hf : H1 s1.heap.objs.size = none := I1.hok.fresh (Nat.le_refl _)
  refine ⟨.ref s1.heap.objs.size, upd H1 s1.heap.objs.size (.tup xs), I1.laid (t' := s1.toks) (fun b u e => Heap.get?_push_of_some _ e) (Nat.le_refl _) ?_, rfl, q _ hf⟩
  exact ⟨z, us, r, ⟨_, Heap.get?_push_size _ rfl, rfl, _, rfl⟩⟩
theorem pe_lst (h : PA X es t) : PE X (.List es pos) (tLst t) := by
  intro pins s σ H Q I hq
  refine wpAny_List_spliced (thn (h pos pins s σ H _ I hq) fun us s1 ⟨xs, H1, I1, r, z, q⟩ => ⟨by rw [← r.length]; exact z, ?_⟩)
  have hf : H1 s1.heap.objs.size = none := I1.hok.fresh (Nat.le_refl _)
  refine ⟨.ref s1.heap.objs.size, upd H1 s1.heap.objs.size (.lst xs), I1.laid (t' := s1.toks) (fun b u e => Heap.get?_push_of_some _ e) (Nat.le_refl _) ?_, rfl, q _ hf⟩
  exact ⟨z, us, 0, r, Heap.get?_push_size _ rfl⟩
end

/-! ### what a def promises -/
/-- a def's promise: the bound arguments in the parameters' order, the heap, the wanted end, the wanted exception -/
noncomputable abbrev Sp := List V → Hp → VK → XK → Prop
/-- how an exception lies behind a call (file 08 gives it): the callers' frames, abstract heap and state ahead of the call, the wish, the exception, the state -/
noncomputable abbrev CXT := List Env → Hp → Shared → XK → Value → Shared → Prop

/-- the state at a call -/
structure Env0 (P : Program) (w : World) (K : PySem.W.Frag) (mg : Str → Option Value) (base : Heap) (A : Around) (outer : List Env) (s : Shared) (H : Hp) : Prop where
  frames : A.frames = some outer
  mod : Mod K mg base
  bs : ∀ b o, base.get? b = some o → s.heap.get? b = some o ∧ H b = none
  bsz : base.objs.size ≤ s.heap.objs.size
  funs : s.heap.FunFrames base outer
  frf : ∀ b ∈ frs outer, H b = none
  hok : HOk P w H s.heap
  bare : AllBare s.gens
/-- a call's end -/
noncomputable def CE (outer : List Env) (P : Program) (w : World) (H : Hp) (s : Shared) (Q : VK) (u : Value) (s' : Shared) : Prop :=
  ∃ v H', s'.os = s.os ∧ AllBare s'.gens ∧ Un (frs outer) [] H H' s.heap s'.heap ∧ HOk P w H' s'.heap ∧ RelV v u ∧ Q v H'
noncomputable def CR (CX : CXT) (outer : List Env) (P : Program) (w : World) (H : Hp) (s : Shared) (Q : VK) (E : XK) (r : Result) (s' : Shared) : Prop :=
  match r with
  | .ok (.ret u) => CE outer P w H s Q u s'
  | .ok _ => False
  | .error e => CX outer H s E e s'
structure FnOk (P : Program) (w : World) (K : PySem.W.Frag) (mg : Str → Option Value) (base : Heap) (CX : CXT) (k : Nat) (f : Addr) (fd : FuncData) (ps : List Str) (sp : Sp) : Prop where
  len : ∀ vs H Q E, sp vs H Q E → vs.length = ps.length
  run : ∀ (A : Around) (outer : List Env) (s : Shared) (H : Hp) (args : Args) (us : List Value) (vs : List V) (Q : VK) (E : XK), Room k A → Env0 P w K mg base A outer s H → BindsTo s fd args (ps.zip us) → Vals vs us → sp vs H Q E →
    codeAny (model P w) A (.call (.ref f) args) (CR CX outer P w H s Q E) s
/-- a weaker promise -/
theorem FnOk.imp {P : Program} {w : World} {K : PySem.W.Frag} {mg : Str → Option Value} {base : Heap} {CX : CXT} {k : Nat} {f : Addr} {fd : FuncData} {ps : List Str} {sp sp' : Sp} (F : FnOk P w K mg base CX k f fd ps sp)
    (h : ∀ vs H Q E, sp' vs H Q E → sp vs H Q E) : FnOk P w K mg base CX k f fd ps sp' :=
  ⟨fun vs H Q E q => F.len vs H Q E (h _ _ _ _ q), fun A outer s H args us vs Q E hr he hb hv hs => F.run A outer s H args us vs Q E hr he hb hv (h _ _ _ _ hs)⟩


section
variable {X : Cx} {pins : List (Addr × Obj)} {σ : St} {H : Hp} {s s' : Shared}
/-- from a body: what a callee wants -/
theorem Inv.env0 (I : Inv X pins σ H s) : Env0 X.prog X.w X.K X.mg X.base X.A X.stack s H :=
  ⟨I.ok.frames, I.ok.mod, I.bs, Nat.le_trans I.ok.bsz I.sz, I.stack, I.stkFree, I.hok, I.bare⟩
/-- behind a call -/
theorem Inv.after {Q : VK} {u : Value} (I : Inv X pins σ H s) (h : CE X.stack X.prog X.w H s Q u s') : EP X pins σ Q u s' := by
  obtain ⟨v, H', os, bare, un, hok, r, q⟩ := h
  obtain ⟨hh, g, d, t, os'⟩ := s'
  obtain rfl : os' = s.os := os
  exact ⟨v, H', I.call (h' := hh) (g' := g) (d' := d) (t' := t) (ch := []) un hok bare (fun b z => absurd z (by simp)), r, q⟩
end

/-! ### calls -/
/-- f(..): the written arguments, then the defaults dvs; E: what is wanted of an exception -/
noncomputable def tCall (sp : Sp) (dvs : List V) (E : XK) (t : TA) : TE := fun σ H Q => t σ H fun vs H1 => sp (vs ++ dvs) H1 Q E

/-- how the parameters are bound: us the positional arguments, kw the keywords' values by name, ds the defaults that fill up -/
noncomputable def Binds (K : PySem.W.Frag) (fd : FuncData) (ps : List Str) (ds : List Value) : Prop :=
  ∀ (s : Shared) (us : List Value), K.In s.heap → (us ++ ds).length = ps.length → BindsTo s fd ⟨us, []⟩ (ps.zip (us ++ ds))
/-- every parameter is given -/
theorem Binds.all {K : PySem.W.Frag} {fd : FuncData} {ps : List Str} (h : ∀ us : List Value, us.length = ps.length → bindArgs fd ⟨us, []⟩ = pure (ps.zip us)) : Binds K fd ps [] := fun s us _ hl => by
  rw [List.append_nil] at hl ⊢
  exact .of_eq (h us hl)

/-- an exception of a callee reaches what this body wants of exceptions -/
noncomputable def Passes (CX : CXT) (X : Cx) (E : XK) : Prop := ∀ (pins : List (Addr × Obj)) (σ : St) (H : Hp) (s : Shared) (e : Value) (s' : Shared), Inv X pins σ H s → CX X.stack H s E e s' → X.xe e s'

section
variable {X : Cx} {CX : CXT} {k : Nat} {f C : Addr} {fd : FuncData} {ps : List Str} {sp : Sp} {dvs : List V} {ds : List Value} {E : XK} {x m : Str} {p pos apos : Pos} {e o : Expr} {es : List Expr} {ta : TE} {t : TA}

/-- the callee runs -/
theorem run_fn {pins : List (Addr × Obj)} {σ : St} {H : Hp} {s : Shared} {Q : VK} {us : List Value} {vs : List V} (F : FnOk X.prog X.w X.K X.mg X.base CX k f fd ps sp) (hr : Room k X.A) (hb : Binds X.K fd ps ds) (hd : Vals dvs ds) (hx : Passes CX X E)
    (I : Inv X pins σ H s) (r : Vals vs us) (h : sp (vs ++ dvs) H Q E) : wpAny (model X.prog X.w) X.A (call (.ref f) us) (EP X pins σ Q) X.xe s := by
  have r2 : Vals (vs ++ dvs) (us ++ ds) := r.append hd
  have hl : (us ++ ds).length = ps.length := by rw [← r2.length]; exact F.len _ _ _ _ h
  refine wpAny_call (codeAny_mono (F.run X.A X.stack s H ⟨us, []⟩ (us ++ ds) (vs ++ dvs) Q E hr I.env0 (hb s us I.kIn hl) r2 h) fun r s' hq => ?_)
  cases r with
  | error e => exact hx pins σ H s e s' I hq
  | ok fl =>
    cases fl with
    | ret u => exact I.after hq
    | next => exact False.elim hq
    | brk => exact False.elim hq
    | cont => exact False.elim hq

theorem pe_call (F : FnOk X.prog X.w X.K X.mg X.base CX k f fd ps sp) (hr : Room k X.A) (hg : Gl X x) (hm : X.mg x = some (.ref f)) (hk : PySem.W.keepIn X.K (.ref f) = true) (hb : Binds X.K fd ps ds) (hd : Vals dvs ds) (hx : Passes CX X E)
    (ha : PA X (e :: es) t) (hdb : (x == ("__debug__" : Str)) = false := by decide) (he : starEach (e :: es) X.env = (false, eval e X.env) :: starEach es X.env := by rfl) (hpl : (backTo pos (starEach es X.env)).any (·.1) = false := by rfl) :
    PE X (.Call (.Name x p) (e :: es) [] pos) (tCall sp dvs E t) := by
  intro pins s σ H Q I h
  refine wpAny_Call_Name_kw (ld_glob I hg hm ?_ hdb)
  refine PySem.W.callWith_K (h₀ := X.base) I.ok.mod.kin hk (thn (ha pos pins s σ H _ I h) fun us s1 ⟨vs, H1, I1, r, q⟩ => ⟨I1.kIn, ?_⟩) he hpl
  exact run_fn F hr hb hd hx I1 r q


/-- what a class must have to be made -/
structure Mk (K : PySem.W.Frag) (C f : Addr) : Prop where
  makes : PySem.W.makesIn K C = true
  init : PySem.W.findIn K (.ref C) "__init__" = some (some (.ref f))
  fn : PySem.W.isFn K (.ref f) = true
  kp : PySem.W.keepIn K (.ref C) = true

end

/-! ### keywords -/
section
variable {X : Cx} {CX : CXT} {k : Nat} {f C : Addr} {fd : FuncData} {ps ks : List Str} {sp : Sp} {E : XK} {x m : Str} {p pos apos kpos : Pos} {e o : Expr} {es : List Expr} {kws : List Keyword} {te ta : TE} {t tk : TA} {nm : Option Str}

/-- how a call with keywords binds: g puts the positional values us and the keywords' values ws (names ks) in the parameters' order, defaults among them -/
structure KBinds (K : PySem.W.Frag) (fd : FuncData) (ps ks : List Str) (g : List Value → List Value → List Value) (gV : List V → List V → List V) : Prop where
  to : ∀ (s : Shared) (us ws : List Value), K.In s.heap → (g us ws).length = ps.length → BindsTo s fd ⟨us, ks.zip ws⟩ (ps.zip (g us ws))
  rel : ∀ {vs : List V} {us : List Value} {zs : List V} {ws : List Value}, Vals vs us → Vals zs ws → Vals (gV vs zs) (g us ws)
variable {g : List Value → List Value → List Value} {gV : List V → List V → List V}
end

/-! ### a def's body keeps its promise -/
/-- names: the parameters first -/
structure FnScope (N P : List Str) (sc : Scope) : Prop where
  kind : sc.kind = .function
  co : sc.isCoroutine = false
  gen : sc.isGenerator = false
  nd : N.Nodup
  pre : N.take P.length = P
  par : ∀ x ∈ P, sc.names.lookup x = some .local ∨ sc.names.lookup x = some .cell
  nofree : ∀ y ∈ sc.names, y.2 ≠ .free

theorem bindL_out {kindOf : Str → Option NameKind} {x : Str} : ∀ {binds : List (Str × Value)} {m : Str → Option Value}, (∀ v, (x, v) ∉ binds) → bindL kindOf binds m x = m x
  | [], _, _ => rfl
  | (n, v) :: r, m, h => by
    unfold bindL
    rw [bindL_out fun w hw => h w (List.mem_cons_of_mem _ hw)]
    split
    · have : x ≠ n := by rintro rfl; exact h v List.mem_cons_self
      simp [this]
    · rfl
theorem bindC_out {kindOf : Str → Option NameKind} {x : Str} : ∀ {binds : List (Str × Value)} {m : Str → Option Value}, (∀ v, (x, v) ∉ binds) → bindC kindOf binds m x = m x
  | [], _, _ => rfl
  | (n, v) :: r, m, h => by
    unfold bindC
    rw [bindC_out fun w hw => h w (List.mem_cons_of_mem _ hw)]
    split
    · rfl
    · have : x ≠ n := by rintro rfl; exact h v List.mem_cons_self
      simp [this]
theorem bindL_get {kindOf : Str → Option NameKind} {x : Str} {v : Value} : ∀ {P : List Str} {vs : List Value} {i : Nat} {m : Str → Option Value}, P.Nodup → P[i]? = some x → vs[i]? = some v → kindOf x = some .local →
    bindL kindOf (P.zip vs) m x = some v
  | [], _, _, _, _, h, _, _ => by simp at h
  | _ :: _, [], _, _, _, _, h, _ => by simp at h
  | p :: P, w :: vs, 0, m, nd, h1, h2, hk => by
    simp at h1 h2; subst h1; subst h2
    show bindL kindOf ((p, w) :: P.zip vs) m p = _
    unfold bindL
    rw [bindL_out fun v hv => (List.nodup_cons.mp nd).1 (List.of_mem_zip hv).1, if_pos hk]
    simp
  | p :: P, w :: vs, i + 1, m, nd, h1, h2, hk => by
    show bindL kindOf ((p, w) :: P.zip vs) m x = _
    unfold bindL
    exact bindL_get (i := i) (List.nodup_cons.mp nd).2 (by simpa using h1) (by simpa using h2) hk
theorem bindC_get {kindOf : Str → Option NameKind} {x : Str} {v : Value} : ∀ {P : List Str} {vs : List Value} {i : Nat} {m : Str → Option Value}, P.Nodup → P[i]? = some x → vs[i]? = some v → kindOf x ≠ some .local →
    bindC kindOf (P.zip vs) m x = some v
  | [], _, _, _, _, h, _, _ => by simp at h
  | _ :: _, [], _, _, _, _, h, _ => by simp at h
  | p :: P, w :: vs, 0, m, nd, h1, h2, hk => by
    simp at h1 h2; subst h1; subst h2
    show bindC kindOf ((p, w) :: P.zip vs) m p = _
    unfold bindC
    rw [bindC_out fun v hv => (List.nodup_cons.mp nd).1 (List.of_mem_zip hv).1, if_neg hk]
    simp
  | p :: P, w :: vs, i + 1, m, nd, h1, h2, hk => by
    show bindC kindOf ((p, w) :: P.zip vs) m x = _
    unfold bindC
    exact bindC_get (i := i) (List.nodup_cons.mp nd).2 (by simpa using h1) (by simpa using h2) hk

/-- the names' values at the entry -/
noncomputable def start (N : List Str) (vs : List V) : St := vs.map some ++ List.replicate (N.length - vs.length) none

/-- the context of a def's body, at its entry; an exception leaves the frame, then lies as CX says -/
noncomputable def cxOf (CX : CXT) (P : Program) (w : World) (K : PySem.W.Frag) (mg : Str → Option Value) (base : Heap) (N : List Str) (qual : Str) (scope : Scope) (f : Addr) (cd : Value) (A : Around) (outer : List Env) (s : Shared) (H : Hp) (E : XK) : Cx where
  prog := P
  w := w
  K := K
  mg := mg
  base := base
  A := A.deeper (envOfC qual scope s.heap.objs.size f cd)
  N := N
  s₀ := s
  H₀ := H
  env := envOfC qual scope s.heap.objs.size f cd
  outer := outer
  stack := envOfC qual scope s.heap.objs.size f cd :: outer
  ex := []
  calm := true
  fn := fun _ => true
  pn := []
  xe := fun e s' => wpAny (model P w) (A.deeper (envOfC qual scope s.heap.objs.size f cd)) (leaving (envOfC qual scope s.heap.objs.size f cd) e) (fun _ s'' => CX outer H s E e s'') (fun e' s'' => CX outer H s E e' s'') s'

theorem cell_has {sc : Scope} {n : Nat} {x : Str} (h : sc.names.lookup x = some .cell) : ∃ c, (cellsFrom n sc.names []).lookup x = some c := by
  have q := PySem.W.cellsFrom_some sc.names n [] (.inl h)
  exact Option.isSome_iff_exists.mp q

theorem inv_start {CX : CXT} {P : Program} {w : World} {K : PySem.W.Frag} {mg : Str → Option Value} {base : Heap} {N ps : List Str} {qual : Str} {scope : Scope} {f : Addr} {cd : Value} {A : Around} {outer : List Env} {s s1 : Shared} {H : Hp} {E : XK} {us : List Value} {vs : List V}
    (S : FnScope N ps scope) (hd : A.handled = none) (e0 : Env0 P w K mg base A outer s H) (hl : vs.length = ps.length) (r : Vals vs us)
    (x : InCallC s s.heap.objs.size (bindL (envOfC qual scope s.heap.objs.size f cd).kindOf (ps.zip us) fun _ => none) (cellsFrom (s.heap.objs.size + 1) scope.names []) (bindC (envOfC qual scope s.heap.objs.size f cd).kindOf (ps.zip us) fun _ => none) s1) :
    Inv (cxOf CX P w K mg base N qual scope f cd A outer s H E) [] (start N vs) H s1 := by
  have hpl : ps.length ≤ N.length := by have := congrArg List.length S.pre; rw [List.length_take] at this; lia
  obtain ⟨h1, tk, rfl, hk⟩ := x.done
  have noA : ∀ b : Addr, b ∉ (cxOf CX P w K mg base N qual scope f cd A outer s H E).ex := fun b z => absurd (show b ∈ ([] : List Addr) from z) (by simp)
  refine ⟨⟨e0.mod, S.kind, rfl, rfl, Nat.le_refl _, fun y z c h1 h2 => ?_, fun y hy => ?_, fun y c _ h => ?_, fun _ => hd, Around.frames_deeper e0.frames, .inr ⟨rfl, rfl⟩, fun b z => absurd z (noA b), e0.bs, e0.bsz, fun b _ _ => noA b, fun b z => absurd z (noA b), e0.funs, e0.frf⟩,
    rfl, e0.bare, Un.kept hk, ⟨_, x.toInCall.ns, fun i y v h1 h2 h3 => ?_⟩, fun y c h => ⟨_, x.cell y c h⟩, e0.hok.fresh (Nat.le_refl _), fun y c h => ?_, fun p hp => absurd (show p ∈ ([] : List (Addr × Obj)) from hp) (by simp), e0.hok.kept hk, ?_⟩
  · exact name_of_addr x.apart (PySem.mem_of_lookup h1) (PySem.mem_of_lookup h2)
  · have hy : scope.names.lookup y = some .cell ∨ scope.names.lookup y = some .free := hy
    rcases hy with hy | hy
    · exact cell_has hy
    · exact absurd rfl (S.nofree _ (PySem.mem_of_lookup hy))
  · exact Nat.le_of_lt (x.above y c (PySem.mem_of_lookup h))
  · have hi : i < vs.length := by
      unfold start at h2
      by_cases hi : i < vs.length
      · exact hi
      · rw [List.getElem?_append_right (by simpa using hi)] at h2
        rw [List.getElem?_replicate] at h2
        split at h2 <;> cases h2
    have ha : vs[i]? = some v := by
      unfold start at h2
      rw [List.getElem?_append_left (by simpa using hi), List.getElem?_map] at h2
      cases e : vs[i]? with
      | none => rw [e] at h2; cases h2
      | some a => rw [e] at h2; cases h2; rfl
    obtain ⟨u, hu, rv⟩ := r.get ha
    have hp : ps[i]? = some y := by
      rw [← S.pre, List.getElem?_take_of_lt (by lia)]; exact h1
    have ndP : ps.Nodup := by rw [← S.pre]; exact S.nd.sublist (List.take_sublist _ _)
    refine ⟨u, rv, ?_⟩
    rcases S.par y (List.mem_of_getElem? hp) with k | k
    · exact .inl ⟨k, bindL_get ndP hp hu k⟩
    · obtain ⟨c, e⟩ := cell_has (n := s.heap.objs.size + 1) k
      refine .inr ⟨.inl k, c, e, ?_⟩
      have q := x.cell y c e
      rw [bindC_get ndP hp hu (by show scope.names.lookup y ≠ _; rw [k]; decide)] at q
      exact q
  · exact e0.hok.fresh (Nat.le_of_lt (x.above y c (PySem.mem_of_lookup h)))
  · unfold start
    show _ = N.length
    rw [List.length_append, List.length_map, List.length_replicate]
    lia

/-- THE RULE: a def (or a method) of the text, by its body. The body's reading t is chosen for each entry; it is run at the parameters' values -/
theorem fn_of {CX : CXT} {P : Program} {w : World} {K : PySem.W.Frag} {mg : Str → Option Value} {base : Heap} {k : Nat} {f : Addr} {name qual : Str} {params : Arguments} {body : List Stmt} {scope : Scope} {dV kV doc pm cdv ct oc : Value} {an od : Option Addr}
    {osl : Array (Option Value)} {N ps : List Str} {sp : Sp} (lk : K.lookup f = some ⟨oc, od, .func (PySem.W.fnOf name qual params body scope dV kV doc pm an cdv ct), osl⟩) (hcd : PySem.W.codeIn K cdv qual = true) (S : FnScope N ps scope)
    (len : ∀ vs H Q E, sp vs H Q E → vs.length = ps.length)
    (hbody : ∀ (A : Around) (outer : List Env) (s : Shared) (H : Hp) (vs : List V) (Q : VK) (E : XK), Room k (A.deeper (envOfC qual scope s.heap.objs.size f cdv)) → sp vs H Q E →
      ∃ t, PSs (cxOf CX P w K mg base N qual scope f cdv A outer s H E) body t ∧ t { nx := fun _ H' => Q .non H', rt := Q } (start N vs) H) :
    FnOk P w K mg base CX (k + 1) f (PySem.W.fnOf name qual params body scope dV kV doc pm an cdv ct) ps sp := by
  refine ⟨len, fun A outer s H args us vs Q E hr e0 hb r hsp => ?_⟩
  have hl := len _ _ _ _ hsp
  have KX : K.In s.heap := e0.mod.kin.keeps fun b o e => (e0.bs b o e).1
  have lim : s.heap.NoLimit := e0.mod.nolimit.keeps fun b o e => (e0.bs b o e).1
  have hkind : ∀ y ∈ ps.zip us, scope.names.lookup y.1 = some .local ∨ (scope.names.lookup y.1 = some .cell ∧ ((cellsFrom (s.heap.objs.size + 1) scope.names []).lookup y.1).isSome = true) := fun ⟨n, v⟩ hy => by
    rcases S.par n (List.of_mem_zip hy).1 with q | q
    · exact .inl q
    · exact .inr ⟨q, PySem.W.cellsFrom_some _ _ _ (.inl q)⟩
  refine codeAny_call_function hr.depth (KX _ _ lk) rfl S.co S.gen rfl (PySem.W.codeRec_of KX hcd) (hb _ _ _ _ ?_)
  refine wpAny_newFunctionEnv_cells S.kind hkind fun env he s1 x => ?_
  subst he
  refine ⟨lim.keeps x.toInCall.keep, codeAny_func ?_⟩
  obtain ⟨t, ht, hq⟩ := hbody A outer s H vs Q E (hr.deeper _) hsp
  have I : Inv (cxOf CX P w K mg base N qual scope f cdv A outer s H E) [] (start N vs) H s1 := inv_start S hr.hd e0 hl r x
  refine wpAny_mono (ht [] s1 (start N vs) H _ I hq) (fun fl s' hs => ?_) fun e s' hs => hs
  have fin : ∀ {σ' : St} {H' : Hp} {v : V} {u : Value}, Inv (cxOf CX P w K mg base N qual scope f cdv A outer s H E) [] σ' H' s' → RelV v u → Q v H' → CE outer P w H s Q u s' :=
    fun {σ' H' v u} J rv q => ⟨v, H', J.os, J.bare, J.base, J.hok, rv, q⟩
  cases fl with
  | ret u =>
    obtain ⟨v, σ', H', J, rv, q⟩ := hs
    exact fin J rv q
  | next =>
    obtain ⟨σ', H', J, q⟩ := hs
    exact fin (v := V.non) (u := Value.none) J rfl q
  | brk =>
    obtain ⟨_, _, _, q⟩ := hs
    exact False.elim q
  | cont =>
    obtain ⟨_, _, _, q⟩ := hs
    exact False.elim q
end L2

namespace L2
open PySem PySem.Spec PyProof.Rows
section
variable {X : Cx} {x : Str} {p pos : Pos} {e : Expr} {es : List Expr} {t : TA} {id T : String} {r : List V → Hp → VK → Prop}

noncomputable def tCB (r : List V → Hp → VK → Prop) (t : TA) : TE := fun σ H Q => t σ H fun vs H1 => r vs H1 Q
/-- f(e, ..), f a built-in function -/
theorem pe_callB (hc : CallR X (.builtin id) r) (hg : Gl X x) (hm : X.mg x = none) (hv : bootBuiltins x = some (.builtin id)) (ha : PA X (e :: es) t) (hn : x ≠ "__name__" := by decide) (hdb : (x == ("__debug__" : Str)) = false := by decide)
    (he : starEach (e :: es) X.env = (false, eval e X.env) :: starEach es X.env := by rfl) (hpl : (backTo pos (starEach es X.env)).any (·.1) = false := by rfl) : PE X (.Call (.Name x p) (e :: es) [] pos) (tCB r t) := by
  intro pins s σ H Q I h
  refine wpAny_Call_Name_kw (ld_blt I hg hm hv ?_ hn hdb)
  exact PyProof.Rows.callWith_builtin1 (thn (ha pos pins s σ H _ I h) fun us s1 ⟨vs, H1, I1, r1, q1⟩ => hc pins s1 σ H1 vs us Q I1 r1 q1) he hpl
/-- T(e, ..), T a built-in type -/
theorem pe_callTy (hc : CallR X (.type T) r) (hg : Gl X x) (hm : X.mg x = none) (hv : bootBuiltins x = some (.type T)) (ha : PA X (e :: es) t) (hn : x ≠ "__name__" := by decide) (hdb : (x == ("__debug__" : Str)) = false := by decide)
    (he : starEach (e :: es) X.env = (false, eval e X.env) :: starEach es X.env := by rfl) (hpl : (backTo pos (starEach es X.env)).any (·.1) = false := by rfl) : PE X (.Call (.Name x p) (e :: es) [] pos) (tCB r t) := by
  intro pins s σ H Q I h
  refine wpAny_Call_Name_kw (ld_blt I hg hm hv ?_ hn hdb)
  exact PyProof.Rows.callWith_type1 (thn (ha pos pins s σ H _ I h) fun us s1 ⟨vs, H1, I1, r1, q1⟩ => hc pins s1 σ H1 vs us Q I1 r1 q1) he hpl
end
end L2

namespace HT
open PySem PyProof.Rows



section
open PySem.SeqAt
open PySem.AutoSeq1 (wpAny_loadPart')
open PySem.MeetsSeq PySem.MeetsSeq2 PySem.MeetsSeq3

end

section
variable {prog : Program} {w : World} {A : Around} {E : Value → Shared → Prop} {s : Shared}


/-- t + u, t not empty -/
theorem cat_tup {t b : Addr} {vs ws : List Value} {Q : Value → Shared → Prop} (ht : IsTup s.heap t vs.toArray) (hb : IsTup s.heap b ws.toArray) (hv : vs ≠ [])
    (h1 : ws = [] → Q (.ref t) s) (h2 : ws ≠ [] → Q (.ref s.heap.objs.size) { s with heap := s.heap.push { cls := .type "tuple", data := .seq (vs ++ ws).toArray } })
    (hsz : vs.length + ws.length ≤ sizeLine) : wpAny (model prog w) A (binaryOp .Add (.ref t) (.ref b)) Q E s := by
  obtain ⟨⟨cls, dd, data, sl⟩, ho, hc, n, hd⟩ := id ht
  obtain ⟨⟨cls2, dd2, data2, sl2⟩, ho2, hc2, n2, hd2⟩ := id hb
  simp only at hc hd hc2 hd2
  subst hc hd hc2 hd2
  have e : vs.toArray ++ ws.toArray = (vs ++ ws).toArray := by simp
  by_cases hw : ws = []
  · exact concat_meets ⟨_, ho, rfl⟩ ⟨_, ho2, rfl⟩ noFill_tuple_add seq_tuple_add PySem.F.slot_tuple_add PySem.F.entry_tuple_add (PySem.F.args_tuple_add_2 _ _)
      (tuple_addW1 t b vs.toArray ws.toArray n n2 dd dd2 sl sl2 (by simpa using hv) (by simp [hw])) ⟨ho, ho2, h1 hw⟩
  · refine concat_meets ⟨_, ho, rfl⟩ ⟨_, ho2, rfl⟩ noFill_tuple_add seq_tuple_add PySem.F.slot_tuple_add PySem.F.entry_tuple_add (PySem.F.args_tuple_add_2 _ _)
      (tuple_addW2 t b vs.toArray ws.toArray n n2 dd dd2 sl sl2 (by simpa using hv) (by simpa using hw) (by rw [List.size_toArray, List.size_toArray]; exact hsz)) ⟨ho, ho2, ?_⟩
    rw [e]
    exact h2 hw

/-! ### t[a:b], not the whole -/
/-- a slice's bound as a place among n (d where it is left out) -/
noncomputable def sIx (n d : Nat) : Option Int → Nat
  | none => d
  | some v => if v < 0 then (v + (n : Int)).toNat else min v.toNat n
theorem sIx_none (n d : Nat) : sIx n d none = d := rfl
theorem sIx_nat (n d k : Nat) : sIx n d (some (k : Int)) = min k n := by
  show (if (k : Int) < 0 then ((k : Int) + (n : Int)).toNat else min (k : Int).toNat n) = min k n
  rw [if_neg (by lia), Int.toNat_natCast]
theorem sIx_le (n d : Nat) (hd : d ≤ n) (o : Option Int) : sIx n d o ≤ n := by
  cases o with
  | none => exact hd
  | some v =>
    show (if v < 0 then (v + (n : Int)).toNat else min v.toNat n) ≤ n
    by_cases hv : v < 0
    · rw [if_pos hv]; lia
    · rw [if_neg hv]; exact Nat.min_le_right _ _
theorem clip_eq (v : Int) (n d : Nat) : (if v < 0 then max (v + (n : Int)) 0 else min v (n : Int)) = ((sIx n d (some v) : Nat) : Int) := by
  show (if v < 0 then max (v + (n : Int)) 0 else min v (n : Int)) = (((if v < 0 then (v + (n : Int)).toNat else min v.toNat n) : Nat) : Int)
  by_cases hv : v < 0
  · simp only [if_pos hv]; lia
  · simp only [if_neg hv]; lia
theorem adjust_gen (lo hi : Option Int) (n : Nat) : Builtin.Slice.sliceAdjust lo hi 1 (n : Int) = (((sIx n 0 lo : Nat) : Int), ((sIx n n hi : Nat) : Int)) := by
  have h1 : ¬ ((1 : Int) < 0) := by lia
  unfold Builtin.Slice.sliceAdjust
  simp only [h1, if_false]
  refine Prod.ext ?_ ?_
  · cases lo with
    | none => rfl
    | some v => exact clip_eq v n 0
  · cases hi with
    | none => rfl
    | some v => exact clip_eq v n n
theorem places_gen (i j : Nat) : Builtin.Slice.slicePlaces (i : Int) (j : Int) 1 = j - i := by
  unfold Builtin.Slice.slicePlaces
  have h1 : (1 : Int) > 0 := by lia
  simp only [h1, if_true, Int.ediv_one]
  split <;> lia
theorem slicePart_ {v : Value} {o : Option Int} {Q : Option Int → Shared → Prop} (p : IsPart v o) (h : Q o s) : wpAny (model prog w) A (Builtin.Slice.slicePartIndex v) Q E s := by
  cases p with
  | none => exact slicePart_none h
  | int i t => exact slicePart_int h
theorem sliceApplied_gen {sl : Addr} {vl vu : Value} {lo hi : Option Int} {n : Nat} {Q : Int × Int × Nat → Shared → Prop} (hs : s.heap.IsSliceOf sl vl vu .none) (pl : IsPart vl lo) (pu : IsPart vu hi)
    (h : Q (((sIx n 0 lo : Nat) : Int), 1, sIx n n hi - sIx n 0 lo) s) : wpAny (model prog w) A (Builtin.Slice.sliceApplied (.ref sl) (pure (n : Int))) Q E s := by
  obtain ⟨os, hos, hcs, hds⟩ := id hs
  unfold Builtin.Slice.sliceApplied Builtin.Slice.sliceFields
  refine wpAny_bind (wpAny_bind (wpAny_field hos hds (x := vl) rfl (wpAny_bind (wpAny_field hos hds (x := vu) rfl (wpAny_bind (wpAny_field hos hds (x := .none) rfl (wpAny_pure ?_)))))))
  refine wpAny_bind (slicePart_none ?_)
  show wpAny _ _ (if ((1 : Int) == 0) = true then _ else _) _ _ s
  rw [if_neg (by decide)]
  refine wpAny_bind (slicePart_ pl (wpAny_bind (slicePart_ pu (wpAny_bind (wpAny_pure ?_)))))
  show wpAny _ _ (match Builtin.Slice.sliceAdjust lo hi 1 (n : Int) with | (lo, hi) => pure (lo, (1 : Int), Builtin.Slice.slicePlaces lo hi 1)) _ _ s
  rw [adjust_gen lo hi n]
  show wpAny _ _ (pure (((sIx n 0 lo : Nat) : Int), (1 : Int), Builtin.Slice.slicePlaces ((sIx n 0 lo : Nat) : Int) ((sIx n n hi : Nat) : Int) 1)) _ _ s
  rw [places_gen]
  exact wpAny_pure h
theorem pick_gen (xs : Array Value) (i k : Nat) : ((List.range k).filterMap fun (m : Nat) => xs[((i : Int) + (m : Int) * 1).toNat]?).toArray = ((xs.toList.drop i).take k).toArray := by
  have e : (fun (m : Nat) => xs[((i : Int) + (m : Int) * 1).toNat]?) = fun m => xs[i + m]? := by
    funext m
    have : ((i : Int) + (m : Int) * 1).toNat = i + m := by lia
    rw [this]
  rw [e]
  have := pick_run xs i k
  rw [List.filterMap_map] at this
  have e2 : ((fun x => xs[x]?) ∘ fun x => i + x) = fun m => xs[i + m]? := rfl
  rw [e2] at this
  rw [this]

theorem getItem_tuple_cut {t sl : Addr} {items : Array Value} {vl vu : Value} {lo hi : Option Int} {Q : Value → Shared → Prop} (ht : IsTup s.heap t items) (hs : s.heap.IsSliceOf sl vl vu .none) (pl : IsPart vl lo) (pu : IsPart vu hi)
    (hw : ¬ (sIx items.size 0 lo = 0 ∧ sIx items.size items.size hi = items.size))
    (h : Q (.ref s.heap.objs.size) { s with heap := s.heap.push { cls := .type "tuple", data := .seq ((items.toList.drop (sIx items.size 0 lo)).take (sIx items.size items.size hi - sIx items.size 0 lo)).toArray } })
    (hsz : items.size ≤ sizeLine) : wpAny (model prog w) A (getItem (.ref t) (.ref sl)) Q E s := by
  have htake : sizeOk (.seq ((items.toList.drop (sIx items.size 0 lo)).take (sIx items.size items.size hi - sIx items.size 0 lo)).toArray) := by
    show ((items.toList.drop (sIx items.size 0 lo)).take (sIx items.size items.size hi - sIx items.size 0 lo)).toArray.size ≤ sizeLine
    rw [List.size_toArray, List.length_take, List.length_drop, Array.length_toList]
    lia
  have hj : sIx items.size items.size hi ≤ items.size := sIx_le _ _ (Nat.le_refl _) hi
  obtain ⟨os, hos, hcs, hds⟩ := id hs
  have hTs : s.TypeIs (.ref sl) "slice" := ⟨os, hos, hcs⟩
  unfold getItem
  try with_reducible refine wpAny_holding ?_
  first | refine wpAny_bind (wpAny_pure ?_) | skip
  refine wpAny_bind (wpAny_sequenceKey ht.typeIs (by decide) ?_)
  refine wpAny_bind (wpAny_callSpecial?_slot (name := Str.ofString "__getitem__") ht.typeIs PyProof.Rows.slot_tuple_getitem
    (wpAny_call_entry PyProof.Rows.slot_tuple_getitem ht.typeIs entry_tuple_getitem ?_ (args_tuple_getitem _ _)))
  show wpAny _ _ (Builtin.Tuple.tupleItemsOf (.ref t) >>= _) _ _ s
  refine wpAny_bind (tupleItemsOf_ ht ?_)
  refine wpAny_bind (wpAny_typeOf hTs ?_)
  rw [if_pos (by decide)]
  refine wpAny_bind (sliceApplied_gen hs pl pu ?_)
  have hno : ¬ ((((sIx items.size 0 lo : Nat) : Int) == 0 && (1 : Int) == 1 && (sIx items.size items.size hi - sIx items.size 0 lo) == items.size) = true) := by
    intro q
    rw [Bool.and_eq_true, Bool.and_eq_true] at q
    have q1 : ((sIx items.size 0 lo : Nat) : Int) = 0 := eq_of_beq q.1.1
    have q2 : sIx items.size items.size hi - sIx items.size 0 lo = items.size := eq_of_beq q.2
    exact hw ⟨by lia, by lia⟩
  show wpAny _ _ (if (((sIx items.size 0 lo : Nat) : Int) == 0 && (1 : Int) == 1 && (sIx items.size items.size hi - sIx items.size 0 lo) == items.size) = true then _ else _) _ _ s
  rw [if_neg hno, pick_gen]
  first
    | exact wpAny_bind (m := Builtin.Tuple.tupleExact _) (wpAny_newObj_type (wpAny_pure ⟨_, rfl, wpAny_pure h⟩) htake)
    | exact wpAny_bind (m := Builtin.Tuple.tupleExact _) (wpAny_newObj_type (wpAny_bind (wpAny_pure (wpAny_pure ⟨_, rfl, wpAny_pure h⟩))) htake)
    | exact wpAny_bind (wpAny_bind (m := Builtin.Tuple.tupleExact _) (wpAny_newObj_type (wpAny_pure (wpAny_pure ⟨_, rfl, wpAny_pure h⟩)) htake))
    | exact wpAny_bind (wpAny_bind (m := Builtin.Tuple.tupleExact _) (wpAny_newObj_type (wpAny_pure ⟨_, rfl, wpAny_pure h⟩) htake))
end
end HT

namespace L2
open PySem PySem.Spec PyProof.Rows

/-! ### the parts of a slice -/
noncomputable abbrev TO := St → Hp → (Option Int → Hp → Prop) → Prop
/-- a slice's part (left out, or an int) -/
noncomputable def PO (X : Cx) (e : Option Expr) (t : TO) : Prop :=
  ∀ (pins : List (Addr × Obj)) (s : Shared) (σ : St) (H : Hp) (Q : Option Int → Hp → Prop), Inv X pins σ H s → t σ H Q →
    wpAny (model X.prog X.w) X.A (evalPart e X.env) (fun u s' => ∃ o H', Inv X pins σ H' s' ∧ IsPart u o ∧ Q o H') X.xe s
noncomputable def tNoPart : TO := fun _ H Q => Q none H
noncomputable def tPart (t : TE) : TO := fun σ H Q => t σ H fun x H1 => ∃ i, x = .int i ∧ Q (some i) H1


section
variable {X : Cx} {e : Expr} {te : TE} {lo hi : Option Expr} {tl th : TO} {pos p2 : Pos}

theorem po_none : PO X none tNoPart := by
  intro pins s σ H Q I h
  rw [evalPart_none]
  exact wpAny_pure ⟨none, H, I, .none, h⟩
theorem po_some (h : PE X e te) : PO X (some e) (tPart te) := by
  intro pins s σ H Q I hw
  rw [evalPart_some]
  refine thn (h pins s σ H _ I hw) fun u s1 ⟨x, H1, I1, r1, q1⟩ => ?_
  obtain ⟨i, rfl, q⟩ := q1
  obtain ⟨t, rfl⟩ := r1
  exact ⟨some i, H1, I1, .int i t, q⟩

/-- what a slice of a value is, by values: the slice object stands at sl -/
noncomputable def SlR (X : Cx) (r : V → Option Int → Option Int → Hp → VK → Prop) : Prop :=
  ∀ (pins : List (Addr × Obj)) (s : Shared) (σ : St) (H : Hp) (x : V) (v vl vu : Value) (lo hi : Option Int) (sl : Addr) (Q : VK), Inv X pins σ H s → RelV x v → s.heap.IsSliceOf sl vl vu .none → IsPart vl lo → IsPart vu hi → r x lo hi H Q →
    ∃ T id, typeLookup (.type T) "__getitem__" = pure (some (.builtin id)) ∧ s.TypeIs v T ∧ wpAny (model X.prog X.w) X.A (getItem v (.ref sl)) (EP X pins σ Q) X.xe s
noncomputable def tSl (r : V → Option Int → Option Int → Hp → VK → Prop) (te : TE) (tl th : TO) : TE := fun σ H Q => te σ H fun x H1 => tl σ H1 fun l H2 => th σ H2 fun u H3 => r x l u H3 Q
/-- a[lo:hi], any a -/
theorem pe_slice {r : V → Option Int → Option Int → Hp → VK → Prop} (hr : SlR X r) (he : PE X e te) (hl : PO X lo tl) (hu : PO X hi th) : PE X (.Subscript e (.Slice lo hi none p2) pos) (tSl r te tl th) := by
  intro pins s σ H Q I h
  refine Subscript_ (thn (he pins s σ H _ I h) fun v s1 ⟨x, H1, I1, r1, q1⟩ => ?_)
  refine wpAny_Slice (thn (hl pins s1 σ H1 _ I1 q1) fun vl s2 ⟨l, H2, I2, pl, q2⟩ => thn (hu pins s2 σ H2 _ I2 q2) fun vu s3 ⟨u, H3, I3, pu, q3⟩ => ?_)
  rw [evalPart_none]
  refine wpAny_pure ?_
  have I4 : Inv X pins σ H3 { s3 with heap := s3.heap.push { cls := .type "slice", data := .fields #[vl, vu, .none] } } := I3.kept (t' := s3.toks) fun b ob q => Heap.get?_push_of_some _ q
  obtain ⟨T, id, hT, ht, hg⟩ := hr pins { s3 with heap := s3.heap.push { cls := .type "slice", data := .fields #[vl, vu, .none] } } σ H3 x v vl vu l u s3.heap.objs.size Q I4 r1 (Heap.IsSliceOf.new ..) pl pu q3
  show wpAny (model X.prog X.w) X.A (subscriptTail e (.Slice lo hi none p2) v (.ref s3.heap.objs.size)) (EP X pins σ Q) X.xe { s3 with heap := s3.heap.push { cls := .type "slice", data := .fields #[vl, vu, .none] } }
  exact tail_any (ops := [.ref s3.heap.objs.size, v]) ht hT hg (by with_unfolding_all rfl)

/-- the items of xs[lo:hi] -/
noncomputable def cutV (xs : List V) (lo hi : Option Int) : List V := (xs.drop (HT.sIx xs.length 0 lo)).take (HT.sIx xs.length xs.length hi - HT.sIx xs.length 0 lo)
theorem cutV_length (xs : List V) (lo hi : Option Int) : (cutV xs lo hi).length ≤ xs.length := by
  unfold cutV
  rw [List.length_take, List.length_drop]
  lia
/-- t[lo:hi], not the whole of it (the whole would be t itself) -/
noncomputable def rSlT (K : PySem.W.Frag) : V → Option Int → Option Int → Hp → VK → Prop := fun x lo hi H Q => ∃ a xs, x = .ref a ∧ SqT K H a xs ∧
  ¬ (HT.sIx xs.length 0 lo = 0 ∧ HT.sIx xs.length xs.length hi = xs.length) ∧ ∀ p, H p = none → Q (.ref p) (upd H p (.tup (cutV xs lo hi)))
theorem sl_tup : SlR X (rSlT X.K) := by
  intro pins s σ H x v vl vu lo hi sl Q I rx hs pl pu h
  obtain ⟨a, xs, rfl, hx, hw, q⟩ := h
  cases rx
  obtain ⟨its, r, ht, hz⟩ := I.tuple hx
  have hlen : its.toArray.size = xs.length := by rw [List.size_toArray]; exact r.length.symm
  refine ⟨"tuple", _, PyProof.Rows.slot_tuple_getitem.lookup, ht.typeIs, ?_⟩
  refine HT.getItem_tuple_cut ht hs pl pu (by rw [hlen]; exact hw) ?_ (by rw [hlen]; exact hz)
  rw [hlen]
  refine ⟨.ref s.heap.objs.size, _, I.laid (t' := s.toks) (o := .tup (cutV xs lo hi)) (fun b ob q => Heap.get?_push_of_some _ q) (Nat.le_refl _) ?_, rfl, q _ (I.hok.fresh (Nat.le_refl _))⟩
  exact ⟨Nat.le_trans (cutV_length xs lo hi) hz, _, (r.drop (HT.sIx xs.length 0 lo)).take (HT.sIx xs.length xs.length hi - HT.sIx xs.length 0 lo), IsTup.new _ _⟩

/-! ### t < u, t + u -/
/-- t + u, t not empty: u empty gives t itself -/
noncomputable def rCatT (K : PySem.W.Frag) : R2 := fun x y H Q => ∃ a b xs ys, x = .ref a ∧ y = .ref b ∧ SqT K H a xs ∧ SqT K H b ys ∧ xs ≠ [] ∧ xs.length + ys.length ≤ sizeLine ∧
  (ys = [] → Q (.ref a) H) ∧ (ys ≠ [] → ∀ p, H p = none → Q (.ref p) (upd H p (.tup (xs ++ ys))))
theorem Vals.nil_iff {xs : List V} {us : List Value} (r : Vals xs us) : us = [] ↔ xs = [] := by
  cases r with
  | nil => simp
  | cons _ _ => simp
theorem op_catT : OpR X (binaryOp .Add) (rCatT X.K) := by
  intro pins s σ H x y v u Q I rx ry h
  obtain ⟨a, b, xs, ys, rfl, rfl, ha, hb, hx, hz, q1, q2⟩ := h
  cases rx
  cases ry
  obtain ⟨its, r1, p1, _⟩ := I.tuple ha
  obtain ⟨its2, r2, p2, _⟩ := I.tuple hb
  refine HT.cat_tup p1 p2 (fun z => hx (r1.nil_iff.mp z)) (fun z => ⟨.ref a, H, I, rfl, q1 (r2.nil_iff.mp z)⟩) (fun z => ?_) (by rw [← r1.length, ← r2.length]; exact hz)
  refine ⟨.ref s.heap.objs.size, _, I.laid (t' := s.toks) (o := .tup (xs ++ ys)) (fun b ob q => Heap.get?_push_of_some _ q) (Nat.le_refl _) ?_, rfl, q2 (fun w => z (r2.nil_iff.mpr w)) _ (I.hok.fresh (Nat.le_refl _))⟩
  exact ⟨by rw [List.length_append]; exact hz, _, r1.append r2, IsTup.new _ _⟩
end
end L2

namespace L2
open PySem PySem.Spec PyProof.Rows

/-! ### places -/
/-- the place that an index of any sign means -/
noncomputable def ixN (n : Nat) (i : Int) : Option Nat := if 0 ≤ i then (if i < n then some i.toNat else none) else if -(n : Int) ≤ i then some (i + n).toNat else none
noncomputable def atI {α : Type} (xs : List α) (i : Int) : Option α := (ixN xs.length i).bind fun j => xs[j]?
theorem ixN_seq {n : Nat} {i : Int} {j : Nat} (h : ixN n i = some j) : seqIndex? i n = some j ∧ j < n ∧ -(n : Int) ≤ i ∧ i < n := by
  unfold ixN at h
  by_cases h0 : 0 ≤ i
  · rw [if_pos h0] at h
    by_cases h1 : i < n
    · rw [if_pos h1] at h
      have e : i.toNat = j := Option.some.inj h
      exact ⟨by rw [seqIndex_of h0 h1, e], by lia, by lia, h1⟩
    · rw [if_neg h1] at h; cases h
  · rw [if_neg h0] at h
    by_cases h1 : -(n : Int) ≤ i
    · rw [if_pos h1] at h
      have e : (i + n).toNat = j := Option.some.inj h
      exact ⟨by rw [seqIndex_neg (by lia) h1, e], by lia, h1, by lia⟩
    · rw [if_neg h1] at h; cases h
theorem atI_get {α : Type} {xs : List α} {i : Int} {v : α} (h : atI xs i = some v) : ∃ j, seqIndex? i xs.length = some j ∧ xs[j]? = some v ∧ j < xs.length ∧ -(xs.length : Int) ≤ i ∧ i < xs.length := by
  unfold atI at h
  cases e : ixN xs.length i with
  | none => rw [e] at h; cases h
  | some j =>
    rw [e] at h
    obtain ⟨h1, h2, h3, h4⟩ := ixN_seq e
    exact ⟨j, h1, h, h2, h3, h4⟩
theorem atI_nat {α : Type} {xs : List α} {j : Nat} {v : α} (h : xs[j]? = some v) : atI xs (j : Int) = some v := by
  have hj : j < xs.length := (List.getElem?_eq_some_iff.mp h).1
  have e : ixN xs.length (j : Int) = some j := by
    unfold ixN
    rw [if_pos (by lia), if_pos (by lia)]; simp
  unfold atI; rw [e]; exact h

/-! ### what may be subscripted -/
/-- what stands as an index of a plain subscript -/
noncomputable def PlainIx (b : Expr) : Prop := ∀ o i, subscripted b false o i = operate [o, i] (getItem o i)
/-- a subscript by values -/
noncomputable def IxR (X : Cx) (r : R2) : Prop :=
  ∀ (value slice : Expr) (pins : List (Addr × Obj)) (s : Shared) (σ : St) (H : Hp) (x y : V) (v u : Value) (Q : VK), Inv X pins σ H s → RelV x v → RelV y u → r x y H Q →
    subscripted slice false v u = operate [v, u] (getItem v u) → wpAny (model X.prog X.w) X.A (subscriptTail value slice v u) (EP X pins σ Q) X.xe s
/-- a call of a builtin's method by values: the receiver, the arguments -/
noncomputable def MtR (X : Cx) (id : String) (r : V → List V → Hp → VK → Prop) : Prop :=
  ∀ (pins : List (Addr × Obj)) (s : Shared) (σ : St) (H : Hp) (x : V) (xs : List V) (v : Value) (us : List Value) (Q : VK), Inv X pins σ H s → RelV x v → Vals xs us → r x xs H Q →
    wpAny (model X.prog X.w) X.A (call (.builtin id) (v :: us)) (EP X pins σ Q) X.xe s
section
variable {X : Cx} {a b : Expr} {ta tb : TE} {pos : Pos}
/-- a[b] -/
theorem pe_ix {r : R2} (hr : IxR X r) (ha : PE X a ta) (hb : PE X b tb) (hs : PlainIx b) : PE X (.Subscript a b pos) (tOp r ta tb) := by
  intro pins s σ H Q I h
  exact Subscript_ (binT ha hb I h fun v u s2 x y H2 I2 rx ry q => hr a b pins s2 σ H2 x y v u Q I2 rx ry q (hs _ _))

noncomputable def rIxL (K : PySem.W.Frag) : R2 := fun x y H Q => ∃ p xs i v, x = .ref p ∧ y = .int i ∧ SqL K H p xs ∧ atI xs i = some v ∧ Q v H
noncomputable def rIxT (K : PySem.W.Frag) : R2 := fun x y H Q => ∃ p xs i v, x = .ref p ∧ y = .int i ∧ SqT K H p xs ∧ atI xs i = some v ∧ Q v H
theorem ix_list : IxR X (rIxL X.K) := by
  intro value slice pins s σ H x y v u Q I rx ry h hs
  obtain ⟨p, xs, i, z, rfl, rfl, hq, he, q⟩ := h
  cases rx
  obtain ⟨t, rfl⟩ := ry
  obtain ⟨its, r, pl, hz⟩ := I.list hq
  obtain ⟨j, h1, h2, h3, h4, h5⟩ := atI_get he
  obtain ⟨w, ew, rw'⟩ := r.get h2
  have hl := r.length
  have hn := line63
  have fin : EP X pins σ Q w s := ⟨z, H, I, rw', q⟩
  by_cases h0 : 0 ≤ i
  · have hj : i.toNat = j := by
      rw [seqIndex_of h0 h5] at h1
      exact Option.some.inj h1
    exact item_listR pl.isList h0 (by lia) (by rw [hj]; simpa using ew) fin hs
  · have hj : (i + (its.toArray.size : Int)).toNat = j := by
      rw [seqIndex_neg (by lia) h4] at h1
      rw [List.size_toArray, ← hl]
      exact Option.some.inj h1
    exact subscriptTail_builtinR (x := w) pl.isList.typeIs slot_list_getitem.lookup
      (wpAny_getItem_list_neg (Q := fun r s' => r = w ∧ EP X pins σ Q r s') pl.isList (by lia) (by rw [List.size_toArray] <;> lia) (by lia) (by rw [hj]; simpa using ew) ⟨rfl, fin⟩) hs
theorem ix_tup : IxR X (rIxT X.K) := by
  intro value slice pins s σ H x y v u Q I rx ry h hs
  obtain ⟨p, xs, i, z, rfl, rfl, hq, he, q⟩ := h
  cases rx
  obtain ⟨t, rfl⟩ := ry
  obtain ⟨its, r, pl, hz⟩ := I.tuple hq
  obtain ⟨j, h1, h2, h3, h4, h5⟩ := atI_get he
  obtain ⟨w, ew, rw'⟩ := r.get h2
  have hl := r.length
  have hn := line63
  have fin : EP X pins σ Q w s := ⟨z, H, I, rw', q⟩
  exact subscriptTail_builtinR (x := w) pl.typeIs slot_tuple_getitem.lookup
    (getItem_tuple (j := j) (Q := fun r s' => r = w ∧ EP X pins σ Q r s') pl (by lia) (by lia) (by rw [List.size_toArray, ← hl]; exact h1) (by simpa using ew) ⟨rfl, fin⟩) hs

/-! ### xs[i] = v, any sign -/
/-- the list's object behind a store -/
theorem mapSeq_set (its : List Value) (n j : Nat) (u : Value) : Obj.mapSeq (·.setIfInBounds j u) { cls := .type "list", data := .seq its.toArray n } = { cls := .type "list", data := .seq (its.set j u).toArray n } := by
  simp [Obj.mapSeq]
theorem Inv.lst {pins : List (Addr × Obj)} {σ : St} {H : Hp} {s : Shared} {p : Addr} {xs : List V} (I : Inv X pins σ H s) (h : H p = some (.lst xs)) :
    ∃ (its : List Value) (n : Nat), Vals xs its ∧ s.heap.get? p = some { cls := .type "list", data := .seq its.toArray n } ∧ xs.length ≤ sizeLine := by
  obtain ⟨z, its, n, r, e⟩ := I.hok p _ h
  exact ⟨its, n, r, e, z⟩
/-- the list at p is written by an update of its object -/
theorem Inv.lstUpd {pins : List (Addr × Obj)} {σ : St} {H : Hp} {s : Shared} {p : Addr} {xs ys : List V} {its its' : List Value} {n n' : Nat} {f : Obj → Obj} (I : Inv X pins σ H s) (h : H p = some (.lst xs))
    (ho : s.heap.get? p = some { cls := .type "list", data := .seq its.toArray n }) (hf : f { cls := .type "list", data := .seq its.toArray n } = { cls := .type "list", data := .seq its'.toArray n' }) (r : Vals ys its') (hz : ys.length ≤ sizeLine) (t : Nat) :
    Inv X pins σ (upd H p (.lst ys)) { s with heap := s.heap.update p f, toks := t } := by
  have e : (s.heap.update p f).get? p = some { cls := .type "list", data := .seq its'.toArray n' } := by
    rw [Heap.get?_update_self f ho (by rw [hf] <;> rfl), hf]
  refine I.write (x := p) (e := p) (by rw [h]; trivial) (.inl rfl) (fun b u hb q => (Heap.get?_update_other _ _ (Ne.symm hb)).trans q) ⟨_, e⟩ ?_
  exact ⟨hz, its', n', r, e⟩
noncomputable def rSetL : V → V → V → Hp → (Hp → Prop) → Prop := fun o i v H Q => ∃ p xs k j, o = .ref p ∧ i = .int k ∧ H p = some (.lst xs) ∧ ixN xs.length k = some j ∧ Q (upd H p (.lst (xs.set j v)))
theorem set_list : PSet X rSetL := by
  intro pins s σ H o i v ov iv u Q I ro ri rv h
  obtain ⟨p, xs, k, j, rfl, rfl, hp, hj, q⟩ := h
  cases ro
  obtain ⟨t, rfl⟩ := ri
  obtain ⟨its, n, r, ho, hz⟩ := I.lst hp
  obtain ⟨h1, h2, h3, h4⟩ := ixN_seq hj
  have hl := r.length
  have hn := line63
  have I' : Inv X pins σ (upd H p (.lst (xs.set j v))) { s with heap := s.heap.update p (Obj.mapSeq (·.setIfInBounds j u)) } :=
    I.lstUpd hp ho (mapSeq_set its n j u) (r.set rv j) (by rw [List.length_set]; exact hz) s.toks
  by_cases h0 : 0 ≤ k
  · have hk : k.toNat = j := by
      rw [seqIndex_of h0 h4] at h1
      exact Option.some.inj h1
    exact PySem.W.ki_setAt ho h0 (by lia) (by rw [List.size_toArray, ← hl]; exact h4) (by rw [hk]; exact ⟨_, I', q⟩)
  · have hk : (k + (its.toArray.size : Int)).toNat = j := by
      rw [seqIndex_neg (by lia) h3] at h1
      rw [List.size_toArray, ← hl]
      exact Option.some.inj h1
    exact PySem.W.ki_setBack ho (by lia) (by rw [List.size_toArray, ← hl]; exact h3) (by lia) (by rw [hk]; exact ⟨_, I', q⟩)

/-! ### slices -/
theorem slice_bounds (lo hi : Option Int) (n : Nat) : (sliceBounds lo hi none n).1 = ((HT.sIx n 0 lo : Nat) : Int) ∧ (sliceBounds lo hi none n).2.1 = ((HT.sIx n n hi : Nat) : Int) ∧ (sliceBounds lo hi none n).2.2 = 1 := by
  refine ⟨?_, ?_, rfl⟩
  · cases lo with
    | none => simp [sliceBounds, HT.sIx]
    | some i =>
      simp only [sliceBounds, HT.sIx, Option.getD_none, show (1 : Int) > 0 by decide, if_true]
      by_cases h : i < 0
      · simp only [h, if_true] <;> lia
      · simp only [h, if_false] <;> lia
  · cases hi with
    | none => simp [sliceBounds, HT.sIx]
    | some i =>
      simp only [sliceBounds, HT.sIx, Option.getD_none, show (1 : Int) > 0 by decide, if_true]
      by_cases h : i < 0
      · simp only [h, if_true] <;> lia
      · simp only [h, if_false] <;> lia
theorem slicePick_cut (its : List Value) (lo hi : Option Int) : slicePick its.toArray lo hi none = ((its.drop (HT.sIx its.length 0 lo)).take (HT.sIx its.length its.length hi - HT.sIx its.length 0 lo)).toArray := by
  obtain ⟨h1, h2, h3⟩ := slice_bounds lo hi its.toArray.size
  unfold slicePick
  rw [h1, h2, h3]
  simp only [sliceRange_one, pick_run, List.size_toArray] <;> rfl
/-- xs[lo:hi] of a list: a new list -/
noncomputable def rSlL (K : PySem.W.Frag) : V → Option Int → Option Int → Hp → VK → Prop := fun x lo hi H Q => ∃ a xs, x = .ref a ∧ SqL K H a xs ∧ ∀ p, H p = none → Q (.ref p) (upd H p (.lst (cutV xs lo hi)))
theorem sl_list : SlR X (rSlL X.K) := by
  intro pins s σ H x v vl vu lo hi sl Q I rx hs pl pu h
  obtain ⟨a, xs, rfl, hx, q⟩ := h
  cases rx
  obtain ⟨its, r, ht, hz⟩ := I.list hx
  have hlen := r.length
  refine ⟨"list", _, slot_list_getitem.lookup, ht.isList.typeIs, ?_⟩
  refine wpAny_getItem_list_slice ht.isList hs pl pu .none (by simp) ?_ (by rw [List.size_toArray] <;> lia)
  rw [slicePick_cut, ← hlen]
  refine ⟨.ref s.heap.objs.size, _, I.laid (t' := s.toks) (o := .lst (cutV xs lo hi)) (fun b ob q => Heap.get?_push_of_some _ q) (Nat.le_refl _) ?_, rfl, q _ (I.hok.fresh (Nat.le_refl _))⟩
  exact ⟨Nat.le_trans (cutV_length xs lo hi) hz, _, 0, (r.drop (HT.sIx xs.length 0 lo)).take (HT.sIx xs.length xs.length hi - HT.sIx xs.length 0 lo), Heap.get?_push_size _ rfl⟩

/-! ### in, not in: flat items -/

/-! ### len, list(x), tuple(x) of any list or tuple that is read -/
theorem call_len_seq : CallR X (.builtin "len") (fun xs H Q => ∃ p ys, xs = [.ref p] ∧ (SqL X.K H p ys ∨ SqT X.K H p ys) ∧ Q (.int ys.length) H) := by
  intro pins s σ H xs us Q I r h
  obtain ⟨p, ys, rfl, hq, q⟩ := h
  obtain ⟨u, rfl, rx⟩ := vals1 r
  cases rx
  have hn := line63
  rcases hq with hq | hq
  · obtain ⟨its, r', pl, hz⟩ := I.list hq
    have hlen := r'.length
    exact Calls.call_len_list pl.isList (by simp only [List.size_toArray] <;> lia) ⟨.int ys.length, H, I.tok _, ⟨s.toks + 1, by rw [List.size_toArray, hlen]⟩, q⟩
  · obtain ⟨its, r', pl, hz⟩ := I.tuple hq
    have hlen := r'.length
    exact len_tuple pl (by simp only [List.size_toArray] <;> lia) ⟨.int ys.length, H, I.tok _, ⟨s.toks + 1, by rw [List.size_toArray, hlen]⟩, q⟩
theorem call_list_of : CallR X (.type "list") (fun xs H Q => ∃ p ys, xs = [.ref p] ∧ (SqL X.K H p ys ∨ SqT X.K H p ys) ∧ ∀ l, H l = none → Q (.ref l) (upd H l (.lst ys))) := by
  intro pins s σ H xs us Q I r h
  obtain ⟨p, ys, rfl, hq, q⟩ := h
  obtain ⟨u, rfl, rx⟩ := vals1 r
  cases rx
  have fin : ∀ (its : List Value), Vals ys its → ys.length ≤ sizeLine → ∀ (h' : Heap) (c' : Nat), (∀ b o', s.heap.get? b = some o' → h'.get? b = some o') →
      h'.get? s.heap.objs.size = some { cls := .type "list", dict := none, data := .seq its.toArray c', slots := #[] } → EP X pins σ Q (.ref s.heap.objs.size) { s with heap := h' } := fun its r' hz h' c' kp e =>
    ⟨.ref s.heap.objs.size, _, I.laid (t' := s.toks) kp (Nat.le_refl _) (show ObjOk X.prog X.w _ h' _ (.lst ys) from ⟨hz, its, c', r', e⟩), rfl, q _ (I.hok.fresh (Nat.le_refl _))⟩
  rcases hq with hq | hq
  · obtain ⟨its, r', pl, hz⟩ := I.list hq
    have hlen := r'.length
    obtain ⟨o, ho, hc, n, hd⟩ := pl.isList
    exact call_list_seq p (.inl rfl) ho hc hd (fun h' c' kp e => fin its r' hz h' c' kp e) (by simp only [List.size_toArray] <;> lia)
  · obtain ⟨its, r', pl, hz⟩ := I.tuple hq
    have hlen := r'.length
    obtain ⟨o, ho, hc, n, hd⟩ := pl
    exact call_list_seq p (.inr rfl) ho hc hd (fun h' c' kp e => fin its r' hz h' c' kp e) (by simp only [List.size_toArray] <;> lia)

/-! ### the call of a builtin's method: o.m(..) -/
/-- the value is of that builtin type -/
noncomputable def tyV (K : PySem.W.Frag) (T : String) (x : V) (H : Hp) : Prop := match x with
  | .str _ => T = "str"
  | .int _ => T = "int"
  | .ref p => (T = "list" ∧ ∃ xs, SqL K H p xs) ∨ (T = "tuple" ∧ ∃ o, K.lookup p = some o ∧ o.cls = .type "tuple" ∧ o.dict = none) ∨
      (T = "dict" ∧ ((∃ kvs, H p = some (.dK kvs)) ∨ ∃ kvs, H p = some (.dT kvs))) ∨ (T = "set" ∧ ∃ S n, H p = some (.set S n))
  | _ => False
theorem tyV_is {pins : List (Addr × Obj)} {σ : St} {H : Hp} {s : Shared} {T : String} {x : V} {v : Value} (I : Inv X pins σ H s) (r : RelV x v) (ty : tyV X.K T x H) :
    s.TypeIs v T ∧ ∀ a, v = .ref a → ∃ ob, s.heap.get? a = some ob ∧ ob.dict = none := by
  cases x with
  | str z =>
    obtain ⟨t, rfl⟩ := r
    cases (show T = "str" from ty)
    exact ⟨typeIs_str s z t, fun _ e => nomatch e⟩
  | int i =>
    obtain ⟨t, rfl⟩ := r
    cases (show T = "int" from ty)
    exact ⟨typeIs_int s i t, fun _ e => nomatch e⟩
  | ref p =>
    cases r
    rcases ty with ⟨rfl, xs, hq⟩ | ⟨rfl, o, hk, hc, hd⟩ | ⟨rfl, hk⟩ | ⟨rfl, S, n, hk⟩
    · obtain ⟨its, _, pl, _⟩ := I.list hq
      refine ⟨pl.isList.typeIs, fun a e => ?_⟩
      cases e
      obtain ⟨o, n, e, c, hd, _⟩ := pl
      exact ⟨o, e, hd⟩
    · refine ⟨⟨o, I.kIn p o hk, hc⟩, fun a e => ?_⟩
      cases e
      exact ⟨o, I.kIn _ o hk, hd⟩
    · have z : ∃ o, s.heap.get? p = some o ∧ o.ExactDict := by
        rcases hk with ⟨kvs, hk⟩ | ⟨kvs, hk⟩
        · obtain ⟨_, _, _, _, o, _, _, e, ex, _⟩ := I.hok p _ hk
          exact ⟨o, e, ex⟩
        · obtain ⟨_, _, _, _, o, _, _, e, ex, _⟩ := I.hok p _ hk
          exact ⟨o, e, ex⟩
      obtain ⟨o, e, ex⟩ := z
      refine ⟨⟨o, e, ex.1⟩, fun a e2 => ?_⟩
      cases e2
      exact ⟨o, e, ex.2.1⟩
    · obtain ⟨o, _, _, _, e, ex, _⟩ := I.hok p _ hk
      refine ⟨⟨o, e, ex.1⟩, fun a e2 => ?_⟩
      cases e2
      exact ⟨o, e, ex.2.1⟩
  | _ => exact False.elim ty
noncomputable def tBM (K : PySem.W.Frag) (T : String) (r : V → List V → Hp → VK → Prop) (to : TE) (t : TA) : TE := fun σ H Q => to σ H fun x H1 => tyV K T x H1 ∧ t σ H1 fun xs H2 => r x xs H2 Q
variable {o e : Expr} {es : List Expr} {to : TE} {t : TA} {name : Str} {apos cpos : Pos} {T id : String} {r : V → List V → Hp → VK → Prop}
theorem pe_bm (pa : PlainAttrs T) (slot : Slot T name id) (hty : typeOf (.builtin id) = pure (.type "method_descriptor")) (hm : MtR X id r) (ho : PE X o to) (ha : PA X (e :: es) t)
    (hbase : attributeBase o name X.env (eval o X.env) = eval o X.env := by rfl)
    (hfew : ((backTo cpos (starEach (e :: es) X.env)).all (fun x => !x.1) && (backToKw cpos (keywordEach [] X.env)).all (fun x => x.1.isSome)
      && decide ((e :: es).length + ([] : List Keyword).length + (if ([] : List Keyword).isEmpty then 0 else 1) < 30)) = true := by rfl)
    (hline : (apos.endLine == cpos.line) = true := by rfl) (hs : starEach (e :: es) X.env = (false, eval e X.env) :: starEach es X.env := by rfl) (hplain : (backTo cpos (starEach es X.env)).any (·.1) = false := by rfl) :
    PE X (.Call (.Attribute o name apos) (e :: es) [] cpos) (tBM X.K T r to t) := by
  intro pins s σ H Q I h
  refine wpAny_Call_method_late hbase hfew hline rfl (thn (ho pins s σ H _ I h) fun v s1 ⟨x, H1, I1, r1, ty, q1⟩ => ?_)
  obtain ⟨h1, h2⟩ := tyV_is I1 r1 ty
  refine ⟨T, id, pa, slot, hty, h1, h2, ?_⟩
  have hA := ha cpos pins s1 σ H1 _ I1 q1
  rw [hs] at hA ⊢
  refine Calls.callWith_builtin (by show (false || (backTo cpos (starEach es X.env)).any (·.1)) = false; rw [hplain] <;> rfl) (Calls.evalArgs_plain ?_)
  exact thn hA fun us s2 ⟨vs, H2, I2, r2, q2⟩ => hm pins s2 σ H2 x vs v us Q I2 r1 r2 q2
/- xs.append(e), list.index on a module's tuple .. are MtR facts of 06m -/
end
end L2

namespace L2
open PySem PySem.Spec PyProof.Rows

noncomputable def MtM (X : Cx) (id : String) (r : V → List V → Hp → VK → Prop) : Prop :=
  ∀ (pins : List (Addr × Obj)) (s : Shared) (σ : St) (H : Hp) (x : V) (xs : List V) (v : Value) (us : List Value) (Q : VK), Inv X pins σ H s → RelV x v → Vals xs us → r x xs H Q →
    wpAny (model X.prog X.w) X.A (call (.builtin id) (v :: us)) (EP X pins σ Q) X.xe s

/-! ### lists of values -/
theorem Vals.one : ∀ {x : V} {us : List Value}, Vals [x] us → ∃ u, us = [u] ∧ RelV x u
  | _, _, .cons r .nil => ⟨_, rfl, r⟩
theorem Vals.zero : ∀ {us : List Value}, Vals [] us → us = []
  | _, .nil => rfl
theorem Vals.dropLast {xs : List V} {us : List Value} (h : Vals xs us) : Vals xs.dropLast us.dropLast := by
  induction h with
  | nil => exact .nil
  | cons r t ih =>
    cases t with
    | nil => exact .nil
    | cons q t' => exact .cons r ih
theorem Vals.eraseIdx : ∀ {xs : List V} {us : List Value} (i : Nat), Vals xs us → Vals (xs.eraseIdx i) (us.eraseIdx i)
  | _, _, _, .nil => .nil
  | _, _, 0, .cons _ t => t
  | _, _, i + 1, .cons r t => .cons r (Vals.eraseIdx i t)
theorem Vals.reverse {xs : List V} {us : List Value} (h : Vals xs us) : Vals xs.reverse us.reverse := by
  induction h with
  | nil => exact .nil
  | cons r t ih => rw [List.reverse_cons, List.reverse_cons]; exact Vals.append ih (.cons r .nil)
theorem Vals.rep {xs : List V} {us : List Value} (h : Vals xs us) : ∀ k : Nat, Vals (List.replicate k xs).flatten (List.replicate k us).flatten
  | 0 => .nil
  | k + 1 => by
    rw [List.replicate_succ, List.replicate_succ, List.flatten_cons, List.flatten_cons]
    exact Vals.append h (Vals.rep h k)
theorem erase_last {α : Type} (l : List α) : l.eraseIdx (l.length - 1) = l.dropLast := by
  induction l with
  | nil => rfl
  | cons a r ih =>
    cases r with
    | nil => rfl
    | cons b r =>
      have e : (a :: b :: r).length - 1 = ((b :: r).length - 1) + 1 := by
        have h1 : (a :: b :: r).length = r.length + 2 := rfl
        have h2 : (b :: r).length = r.length + 1 := rfl
        lia
      rw [e, List.eraseIdx_cons_succ, ih]
      all_goals rfl
theorem len_erase {α : Type} : ∀ (l : List α) (i : Nat), (l.eraseIdx i).length ≤ l.length
  | [], _ => Nat.le_refl _
  | _ :: _, 0 => Nat.le_succ _
  | _ :: r, i + 1 => Nat.succ_le_succ (len_erase r i)
theorem foldl_rep (its : List Value) : ∀ (k : Nat) (acc : List Value),
    List.foldl (fun x1 x2 => x1 ++ x2) acc.toArray (List.replicate k its.toArray) = (acc ++ (List.replicate k its).flatten).toArray
  | 0, acc => by simp
  | k + 1, acc => by
    have e : acc.toArray ++ its.toArray = (acc ++ its).toArray := by simp
    have e2 : (acc ++ its) ++ (List.replicate k its).flatten = acc ++ (List.replicate (k + 1) its).flatten := by
      rw [List.replicate_succ, List.flatten_cons, List.append_assoc]
    rw [← e2, ← foldl_rep its k (acc ++ its), ← e, List.replicate_succ, List.foldl_cons]

section
variable {X : Cx} {pins : List (Addr × Obj)} {σ : St} {H : Hp} {s : Shared} {l b : Addr} {xs ys zs : List V}

/-! ### the two steps: a tracked list is rewritten, a new list is laid -/
theorem Inv.lset {its its' : List Value} {n : Nat} {f : Array Value → Array Value} {t' : Nat} (I : Inv X pins σ H s) (hH : H l = some (.lst xs))
    (e : s.heap.get? l = some { cls := .type "list", data := .seq its.toArray n }) (hf : f its.toArray = its'.toArray) (hv : Vals ys its') (hz : ys.length ≤ sizeLine) :
    Inv X pins σ (upd H l (.lst ys)) { s with heap := s.heap.update l (Obj.mapSeq f), toks := t' } := by
  have q := PySem.IsL.update e f
  rw [hf] at q
  refine I.write (x := l) (e := l) (by rw [hH]; exact trivial) (.inl rfl) (fun b' u hb hu => (Heap.get?_update_other s.heap (Obj.mapSeq f) (Ne.symm hb)).trans hu) ⟨_, q⟩ ?_
  exact ⟨hz, its', _, hv, q⟩
theorem Inv.lnew {its : List Value} {t' : Nat} (I : Inv X pins σ H s) (hv : Vals ys its) (hz : ys.length ≤ sizeLine) :
    Inv X pins σ (upd H s.heap.objs.size (.lst ys)) { s with heap := s.heap.push { cls := .type "list", data := .seq its.toArray }, toks := t' } :=
  I.laid (fun _ _ q => Heap.get?_push_of_some _ q) (Nat.le_refl _) ⟨hz, its, 0, hv, Heap.get?_push_size _ rfl⟩
theorem Inv.fresh (I : Inv X pins σ H s) : H s.heap.objs.size = none := I.hok.fresh (Nat.le_refl _)
theorem Inv.lstM (I : Inv X pins σ H s) (hH : H l = some (.lst xs)) : xs.length ≤ sizeLine ∧ ∃ (its : List Value) (n : Nat), Vals xs its ∧ xs.length = its.length ∧ s.heap.get? l = some { cls := .type "list", data := .seq its.toArray n } := by
  obtain ⟨z, its, n, r, e⟩ := I.hok l _ hH
  exact ⟨z, its, n, r, r.length, e⟩

theorem notLongL {n : Nat} (h : n ≤ sizeLine) : Builtin.List.listTooLong n = false := by
  unfold Builtin.List.listTooLong
  exact decide_eq_false (by lia)
end

section
variable {X : Cx}

/-! ### methods -/
noncomputable def rAppend : V → List V → Hp → VK → Prop := fun x vs H Q => ∃ l xs y, x = .ref l ∧ vs = [y] ∧ H l = some (.lst xs) ∧ xs.length < sizeLine ∧ Q .non (upd H l (.lst (xs ++ [y])))
theorem mt_append : MtM X "list.append" rAppend := by
  intro pins s σ H x vs v us Q I rx rv h
  obtain ⟨l, xs, y, rfl, rfl, hH, hz, q⟩ := h
  cases rx
  obtain ⟨u, rfl, ru⟩ := rv.one
  obtain ⟨z, its, n, r, hl, e⟩ := I.lstM hH
  refine call_meets F.slot_list_append ⟨_, e, rfl⟩ F.entry_list_append (F.args_list_append_2 _ _) (PySem.list_append l its.toArray n u (by rw [List.size_toArray]; lia)) ⟨e, ?_⟩
  refine ⟨.non, _, I.lset (its' := its ++ [u]) hH e (by simp) (r.append (.cons ru .nil)) ?_, rfl, q⟩
  rw [List.length_append, List.length_singleton]
  lia

noncomputable def rExtend : V → List V → Hp → VK → Prop := fun x vs H Q => ∃ l b xs zs, x = .ref l ∧ vs = [.ref b] ∧ H l = some (.lst xs) ∧ H b = some (.lst zs) ∧ xs.length + zs.length ≤ sizeLine ∧ Q .non (upd H l (.lst (xs ++ zs)))
theorem mt_extend : MtM X "list.extend" rExtend := by
  intro pins s σ H x vs v us Q I rx rv h
  obtain ⟨l, b, xs, zs, rfl, rfl, hH, hB, hz, q⟩ := h
  cases rx
  obtain ⟨u, rfl, ru⟩ := rv.one
  cases ru
  obtain ⟨z, its, n, r, hl, e⟩ := I.lstM hH
  obtain ⟨z2, its2, n2, r2, hl2, e2⟩ := I.lstM hB
  have hsz : its.toArray.size + its2.toArray.size ≤ sizeLine := by rw [List.size_toArray, List.size_toArray]; lia
  have hlong : ¬ (!its.toArray.isEmpty && Builtin.List.listTooLong (its.toArray.size + its2.toArray.size)) = true := by
    rw [notLongL hsz, Bool.and_false]
    exact Bool.false_ne_true
  refine call_meets F.slot_list_extend ⟨_, e, rfl⟩ F.entry_list_extend (F.args_list_extend_2 _ _)
    (AutoSeq1.list_extend_list_list_0 l its.toArray n b its2.toArray n2 hlong (by rw [List.size_toArray]; lia) (by lia)) ⟨e, e2, ?_⟩
  refine ⟨.non, _, I.lset (its' := its ++ its2) hH e (by simp) (r.append r2) ?_, rfl, q⟩
  rw [List.length_append]
  lia

noncomputable def rPop : V → List V → Hp → VK → Prop := fun x vs H Q => ∃ l xs y, x = .ref l ∧ vs = [] ∧ H l = some (.lst xs) ∧ xs[xs.length - 1]? = some y ∧ Q y (upd H l (.lst xs.dropLast))
theorem mt_pop : MtM X "list.pop" rPop := by
  intro pins s σ H x vs v us Q I rx rv h
  obtain ⟨l, xs, y, rfl, rfl, hH, hy, q⟩ := h
  cases rx
  have hus := rv.zero
  subst hus
  obtain ⟨z, its, n, r, hl, e⟩ := I.lstM hH
  obtain ⟨u, hu, ru⟩ := r.get hy
  have hy' : its.toArray[its.toArray.size - 1]? = some u := by
    show its.toArray[its.length - 1]? = some u
    rw [← Array.getElem?_toList, ← hl]
    exact hu
  refine call_meets F.slot_list_pop ⟨_, e, rfl⟩ F.entry_list_pop (F.args_list_pop_1 _) (MeetsSeq.list_pop_last l its.toArray n u hy' (by rw [List.size_toArray]; lia)) ⟨e, ?_⟩
  refine ⟨y, _, I.lset (its' := its.dropLast) hH e ?_ r.dropLast ?_, ru, q⟩
  · show its.toArray.eraseIdxIfInBounds (its.toArray.size - 1) = its.dropLast.toArray
    rw [List.size_toArray, List.eraseIdxIfInBounds_toArray, erase_last]
  · rw [List.length_dropLast]
    lia

noncomputable def rPopAt : V → List V → Hp → VK → Prop := fun x vs H Q => ∃ l xs i k y, x = .ref l ∧ vs = [.int i] ∧ H l = some (.lst xs) ∧ -(2 ^ 63) ≤ i ∧ i < 2 ^ 63 ∧ seqIndex? i xs.length = some k ∧ xs[k]? = some y ∧ Q y (upd H l (.lst (xs.eraseIdx k)))
theorem mt_popAt : MtM X "list.pop" rPopAt := by
  intro pins s σ H x vs v us Q I rx rv h
  obtain ⟨l, xs, i, k, y, rfl, rfl, hH, h1, h2, hk, hy, q⟩ := h
  cases rx
  obtain ⟨u, rfl, ru⟩ := rv.one
  obtain ⟨t, rfl⟩ := ru
  obtain ⟨z, its, n, r, hl, e⟩ := I.lstM hH
  obtain ⟨w, hw, rw'⟩ := r.get hy
  refine call_meets F.slot_list_pop ⟨_, e, rfl⟩ F.entry_list_pop (F.args_list_pop_2 _ _)
    (MeetsSeq.list_pop_at l its.toArray n i t k w (fitsIndex_both h1 h2) (by rw [List.size_toArray, ← hl]; exact hk) (by rw [← Array.getElem?_toList]; exact hw) (by rw [List.size_toArray]; lia)) ⟨e, ?_⟩
  refine ⟨y, _, I.lset (its' := its.eraseIdx k) hH e ?_ (r.eraseIdx k) ?_, rw', q⟩
  · show its.toArray.eraseIdxIfInBounds k = (its.eraseIdx k).toArray
    rw [List.eraseIdxIfInBounds_toArray]
  · have := len_erase xs k
    lia



/-! ### list + list, list += list, list * int -/
noncomputable def rCat : R2 := fun x y H Q => ∃ l b xs zs, x = .ref l ∧ y = .ref b ∧ H l = some (.lst xs) ∧ H b = some (.lst zs) ∧ xs.length + zs.length ≤ sizeLine ∧ ∀ p, H p = none → Q (.ref p) (upd H p (.lst (xs ++ zs)))
theorem op_cat : OpR X (binaryOp .Add) rCat := by
  intro pins s σ H x y v u Q I rx ry h
  obtain ⟨l, b, xs, zs, rfl, rfl, hH, hB, hz, q⟩ := h
  cases rx
  cases ry
  obtain ⟨z, its, n, r, hl, e⟩ := I.lstM hH
  obtain ⟨z2, its2, n2, r2, hl2, e2⟩ := I.lstM hB
  refine PySem.P.add_list e e2 ?_ (by rw [List.size_toArray, List.size_toArray]; lia)
  have ea : its.toArray ++ its2.toArray = (its ++ its2).toArray := by simp
  rw [ea]
  exact ⟨.ref _, _, I.lnew (t' := s.toks) (r.append r2) (by rw [List.length_append]; lia), rfl, q _ I.fresh⟩
/-- a list times an int (a negative one is nothing) -/
noncomputable def rRep : R2 := fun x y H Q => ∃ l k xs, x = .ref l ∧ y = .int k ∧ H l = some (.lst xs) ∧ -(2 ^ 63) ≤ k ∧ k < 2 ^ 63 ∧ xs.length * k.toNat ≤ sizeLine ∧
  ∀ p, H p = none → Q (.ref p) (upd H p (.lst (List.replicate k.toNat xs).flatten))
theorem len_rep {α : Type} (xs : List α) (k : Nat) : (List.replicate k xs).flatten.length = k * xs.length := by
  induction k with
  | zero => simp
  | succ k ih => rw [List.replicate_succ, List.flatten_cons, List.length_append, ih, Nat.succ_mul, Nat.add_comm]
theorem op_rep : OpR X (binaryOp .Mult) rRep := by
  intro pins s σ H x y v u Q I rx ry h
  obtain ⟨l, k, xs, rfl, rfl, hH, h1, h2, hz, q⟩ := h
  cases rx
  obtain ⟨t, rfl⟩ := ry
  obtain ⟨z, its, n, r, hl, e⟩ := I.lstM hH
  have hlen : its.toArray.size * k.toNat ≤ sizeLine := by rw [List.size_toArray, ← hl]; exact hz
  have hcap : ¬ its.toArray.size * k.toNat > (2 ^ 63 - 1) / 8 := by
    have : (sizeLine : Nat) ≤ (2 ^ 63 - 1) / 8 := by decide
    lia
  have hfit : ¬ (!Builtin.List.listFitsIndex k) = true := by
    rw [fitsIndex_both h1 h2]
    exact Bool.false_ne_true
  have hlong : ¬ Builtin.List.listTooLong (its.toArray.size * k.toNat) = true := by
    rw [notLongL hlen]
    exact Bool.false_ne_true
  have hnew : List.foldl (fun x1 x2 => x1 ++ x2) #[] (List.replicate (if its.toArray.isEmpty = true then 0 else k.toNat) its.toArray) = (List.replicate k.toNat its).flatten.toArray := by
    have f0 : ∀ m : Nat, List.foldl (fun x1 x2 => x1 ++ x2) #[] (List.replicate m its.toArray) = (List.replicate m its).flatten.toArray := fun m => by
      have := foldl_rep its m []
      rw [List.nil_append] at this
      exact this
    rw [f0]
    cases its with
    | nil => simp
    | cons a r' => rw [if_neg (by simp)]
  refine wpAny_binaryOp_repeat_ref (T := "list") (U := "int") (by decide) ⟨_, e, rfl⟩ (fun s' => typeIs_int s' k t) noFill_list_mul F.fills_int_mul F.slot_int_rmul repeat_list F.slot_int_index.lookup
    (call_meets F.slot_int_rmul (typeIs_int s k t) F.entry_int_rmul (F.args_int_rmul_2 _ _) (int___rmul___int_list k t l its.toArray n)
      ⟨e, rfl, ⟨_, e, rfl⟩, call_meets F.slot_list_mul ⟨_, e, rfl⟩ F.entry_list_mul (F.args_list_mul_2 _ _) (AutoListH.list___mul___list_int_3 l its.toArray n k t hfit hcap hlong) ⟨e, ?_⟩⟩)
  rw [hnew]
  exact ⟨.ref _, _, I.lnew (t' := s.toks) (r.rep k.toNat) (by rw [len_rep, Nat.mul_comm]; exact hz), rfl, q _ I.fresh⟩

/-! ### del xs[i] -/
end

/-! ### xs[a:b] = ys -/
section
variable {prog : Program} {w : World} {A : Around} {E : Value → Shared → Prop} {s : Shared}
end

section
variable {X : Cx}
end
end L2

namespace Att
open PySem PySem.W PySem.Calls PyProof.Rows

/-! ### the script -/
theorem ints_of_wellAll {P : Params} {h : Heap} : ∀ (ns : List Int) (vs : List Value), WellAll P h vs (ns.map WData.int) → IntsAre vs ns := by
  intro ns
  induction ns with
  | nil =>
    intro vs w
    rw [List.map_nil] at w
    cases w
    exact .nil
  | cons n ns ih =>
    intro vs w
    rw [List.map_cons] at w
    cases w with
    | cons a b =>
      cases a
      exact .cons _ _ (ih _ b)

theorem script_of {l : OpenLaw} {n : Nat} (hn : l.most = some n) {P : Params} {h : Heap} {args : List WData} {vals : List Value}
    (hpre : l.row.toRowW.claim.pre args = true) (hwl : WellAll P h vals args) :
    ∃ a vs ns, vals = [Value.ref a] ∧ args = [WData.list (ns.map WData.int)] ∧ h.get? a = some { cls := .type "list", data := .seq vs.toArray } ∧ IntsAre vs ns ∧ ns.length ≤ n := by
  have hsh : WShape.hasAll [] args [.list .int] = true := (pre_splitW hpre).1
  have hc : l.pre.holds [] { args := args } = true := (pre_splitW hpre).2
  obtain ⟨d, r, rfl, h1, h2⟩ := hasAllW_cons hsh
  obtain rfl := hasAllW_nil h2
  obtain ⟨xs, rfl, h3⟩ := hasW_list h1
  obtain ⟨ns, rfl⟩ := items_int h3
  have hlen : ns.length ≤ n := by
    unfold OpenLaw.pre at hc
    have h4 : (WTm.not (.lt (.lit (.int (n : Int))) (.len (.arg 0)))).holds [] { args := [.list (ns.map .int)] } = true := by
      have h4 := (holds_andW hc).1
      rw [hn] at h4
      exact h4
    have h5 := condW_of h4 (w_not (w_lt w_lit (w_len_list (w_arg rfl))))
    rw [List.length_map] at h5
    refine Nat.le_of_not_lt fun q => ?_
    have q' : (n : Int) < ((ns.length : Nat) : Int) := by lia
    first
      | (rw [decide_eq_true q'] at h5; exact absurd h5 (by decide))
      | (simp at h5; lia)
  cases hwl with
  | cons w1 w2 =>
    cases w2
    cases w1 with
    | list ho hall => exact ⟨_, _, ns, rfl, rfl, ho, ints_of_wellAll ns _ hall, hlen⟩

theorem post_true (l : OpenLaw) (args : List WData) : l.row.toRowW.claim.post args (.bool true) args = true :=
  postW_of (r := l.row.toRowW) (X := (true == true))
    (show WShape.has [] (.bool true) .bool = true by first | rfl | decide | simp [WShape.has, WShape.arms, WShape.armsAll])
    (show (WTm.eq .res (.lit (.bool true))).value [] { args := args, res := some (.bool true), after := args } = some (.bool (true == true)) from w_eq_bool (w_res rfl) w_lit) rfl

/-! ### the attachment: holds_open's last premise (the goal 'hc' behind k_head) from a wpAny of the law's body -/

/-- the same from a codeAny of the CALL (for a layer whose function contracts speak of calls) -/
theorem attach_call {l : OpenLaw} {n : Nat} {q : Program} {loose : List Str} {XP : (Str → Option Value) → Heap → Prop} {YP : World → Heap → Prop} {d : DefRec}
    (hn : l.most = some n) (hdf : d.params.defaults = [])
    (call : ∀ (w : World) (s₀ s₁ : Shared) (mg mb : Str → Option Value) (fa : Addr) (o : Obj) (pm cd doc : Value) (a : Addr) (vs : List Value) (ns : List Int),
      Ground q loose [] XP w s₀ mg mb s₁.heap → YP w s₁.heap →
      s₁.heap.get? fa = some o → o.data = .func (docDef d.name d.params d.body d.scope pm cd doc) → s₁.heap.CodeRec cd d.name → mg d.name = some (.ref fa) →
      s₁.heap.get? a = some { cls := .type "list", data := .seq vs.toArray } → IntsAre vs ns → ns.length ≤ n → s₁.gens = #[] →
      codeAny (model l.prog w) callerA (.call (.ref fa) ⟨[.ref a], []⟩) (fun r s' => r = .ok (.ret (.bool true)) ∧ OldK s₁.heap s'.heap ∧ s'.os = s₁.os ∧ AllBare s'.gens) s₁) :
    WalkO q loose XP YP l.row.toRowW d [] (fun f vs => PySem.call f vs) := by
  intro w s₀ s₁ mg mb G Y fa o pm cd doc dV kV ho hd hcd hD hmg hg args vals as hpre hlay hrd hwl hlo
  obtain rfl : dV = .none := Dflts.none hD hdf
  obtain rfl : kV = .none := Dflts.noKw hD
  obtain ⟨a, vs, ns, rfl, rfl, hobj, hints, hlen⟩ := script_of hn hpre hwl
  refine enter_call (codeAny_mono (call w s₀ s₁ mg mb fa o pm cd doc a vs ns G Y ho (fd_plain hd) hcd hmg hobj hints hlen hg) fun r s' hq => ?_)
  obtain ⟨rfl, h2, h3, h4⟩ := hq
  exact ⟨.inl ⟨.bool true, .bool true, [], rfl, fun _ => rfl, .bool true, post_true l _, fun _ => ⟨List.Pairwise.nil, fun _ hm => (nomatch hm)⟩⟩, h2, h3, h4⟩


/-! ### rules over ANY heap (no ledger) from facts about the written part K: the library's own take a ledger (News) for what they write -/
section
variable {prog : Program} {w : World} {A : Around} {E : Value → Shared → Prop} {s : Shared} {K : Frag}





/-! the whole heap as the ledger: makes every rule that writes through a ledger a rule over any heap -/

end
end Att

namespace L2
open PySem PySem.Spec PyProof.Rows

theorem vals_ints : ∀ {vs : List Value} {ns : List Int}, IntsAre vs ns → Vals (ns.map V.int) vs
  | _, _, .nil => .nil
  | _, _, .cons n t h => .cons ⟨t, rfl⟩ (vals_ints h)

/-- nothing is tracked but the script, known to the object (or it is an object of the module) -/
noncomputable def Only (H : Hp) : Prop := ∀ b, H b = none ∨ ∃ o xs, H b = some (.frz o (.lst xs))

/-- THE HEAD: the law's promise, at the heap behind the top. F, the promise of the law's def, may use that base is part of the heap (so K.In base, base.Ns mainGlobals mg stand in Mod) -/
theorem law_call {P : Program} {w : World} {K : PySem.W.Frag} {mg mb : Str → Option Value} {CX : CXT} {k : Nat} {fa a : Addr} {fd : FuncData} {x : Str} {sp : Sp} {s₁ : Shared} {vs : List Value} {ns : List Int}
    (KX : K.In s₁.heap) (hns : s₁.heap.Ns mainGlobals mg) (hb : s₁.heap.Ns builtinsNs mb) (hbb : ∀ x : Str, x ≠ "__name__" → mb x = bootBuiltins x) (hlim : s₁.heap.NoLimit) (hg : s₁.gens = #[])
    (ha : s₁.heap.get? a = some { cls := .type "list", data := .seq vs.toArray }) (hi : IntsAre vs ns) (hl : ns.length ≤ sizeLine) (hr : Room k callerA)
    (F : ∀ base : Heap, K.In base → base.Ns mainGlobals mg → FnOk P w K mg base CX k fa fd [x] sp) (hbind : ∀ (s : Shared) (u : Value), BindsTo s fd ⟨[u], []⟩ [(x, u)])
    (hsp : ∀ H : Hp, Only H → SqL K H a (ns.map V.int) → sp [.ref a] H (fun v _ => v = .bl true) fun _ _ _ => False)
    (hCX : ∀ H e s', CX [] H s₁ (fun _ _ _ => False) e s' → False) :
    codeAny (model P w) callerA (.call (.ref fa) ⟨[.ref a], []⟩) (fun r s' => r = .ok (.ret (.bool true)) ∧ OldK s₁.heap s'.heap ∧ s'.os = s₁.os ∧ AllBare s'.gens) s₁ := by
  have rv := vals_ints hi
  have lenV := hi.length
  -- from an abstract heap in which nothing but the script may be tracked
  have core : ∀ H : Hp, Only H → SqL K H a (ns.map V.int) → HOk P w H s₁.heap → (∀ b, H b ≠ none → b = a) → (H a ≠ none → K.lookup a = none) →
      codeAny (model P w) callerA (.call (.ref fa) ⟨[.ref a], []⟩) (fun r s' => r = .ok (.ret (.bool true)) ∧ OldK s₁.heap s'.heap ∧ s'.os = s₁.os ∧ AllBare s'.gens) s₁ := by
    intro H hO hS hok hA hK
    have base_of : ∀ {b : Addr} {o : Obj}, s₁.heap.get? b = some o → H b = none → (hidT s₁.heap H).get? b = some o := fun e n => hidT_get e n
    have noA : ∀ {b : Addr} {o : Obj} {es : Array DictEntry} {ep : Nat}, s₁.heap.get? b = some o → o.data = .dict es ep → H b = none := fun {b o es ep} e d => by
      cases q : H b with
      | none => rfl
      | some u =>
        have e' : b = a := hA b (by rw [q]; simp)
        subst e'
        rw [ha] at e; cases e
        have d' : Data.seq vs.toArray _ = Data.dict es ep := d
        cases d'
    have nsK : ∀ {b : Addr} {m : Str → Option Value}, s₁.heap.Ns b m → (hidT s₁.heap H).Ns b m := fun {b m} ⟨o, es, ep, e, d, r⟩ => ⟨o, es, ep, base_of e (noA e d), d, r⟩
    have hKb : K.In (hidT s₁.heap H) := fun b o e => base_of (KX b o e) (by
      cases q : H b with
      | none => rfl
      | some u =>
        have e' : b = a := hA b (by rw [q]; simp)
        subst e'
        rw [hK (by rw [q]; simp)] at e; cases e)
    have hM : Mod K mg (hidT s₁.heap H) := ⟨hKb, nsK hns, ⟨mb, nsK hb, hbb⟩, let ⟨mc, h1, h2⟩ := hlim; ⟨mc, nsK h1, h2⟩⟩
    have e0 : Env0 P w K mg (hidT s₁.heap H) callerA [] s₁ H := ⟨rfl, hM, fun b o e => of_hidT e, Nat.le_of_eq (hidT_size _ _), trivial, fun b hb => absurd (show b ∈ ([] : List Addr) from hb) (by simp), hok, .of_eq hg⟩
    refine codeAny_mono ((F _ hKb (nsK hns)).run callerA [] s₁ H ⟨[.ref a], []⟩ [.ref a] [.ref a] _ _ hr e0 (hbind s₁ (.ref a)) (.cons rfl .nil) (hsp H hO hS)) fun r s' h => ?_
    cases r with
    | error e => exact (hCX H e s' h).elim
    | ok fl =>
      cases fl with
      | next => exact False.elim h
      | brk => exact False.elim h
      | cont => exact False.elim h
      | ret u =>
        obtain ⟨v, H', os, bare, un, hok', r', q⟩ := h
        have q' : v = .bl true := q
        subst q'
        obtain rfl : u = Value.bool true := r'
        refine ⟨rfl, OldK.of_keep fun b o e => ?_, os, bare⟩
        cases q : H b with
        | none => exact un.keep b o e q (by intro z; exact absurd (show b ∈ ([] : List Addr) from z) (by simp)) (by simp)
        | some u =>
          rcases hO b with z | ⟨ob, xs, z⟩
          · rw [q] at z; cases z
          · have z2 := un.frzs b ob _ z
            obtain ⟨e1, _⟩ := hok b _ z
            obtain ⟨e2, _⟩ := hok' b _ z2
            rw [e] at e1; cases e1
            exact e2
  cases hk : K.lookup a with
  | some o =>
    -- the script is one of the module's own objects
    have e := KX a o hk
    rw [ha] at e
    cases e
    refine core (fun _ => none) (fun _ => .inl rfl) (.inr ⟨_, vs.toArray, _, hk, rfl, rfl, rfl, by rw [List.size_toArray, lenV]; exact hl, by simpa using rv⟩) (fun b u z => by have z' : (none : Option HO) = some u := z; cases z') (fun b z => absurd rfl z) fun z => absurd rfl z
  | none =>
    refine core (fun b => if b = a then some (.frz { cls := .type "list", data := .seq vs.toArray } (.lst (ns.map V.int))) else none) (fun b => ?_) (.inl (.inr ⟨{ cls := .type "list", data := .seq vs.toArray }, if_pos rfl⟩)) (fun b u z => ?_) (fun b z => ?_) fun _ => hk
    · by_cases hb : b = a
      · exact .inr ⟨_, _, if_pos hb⟩
      · exact .inl (if_neg hb)
    · by_cases hb : b = a
      · have z' := (if_pos hb).symm.trans z
        cases z'
        subst hb
        exact ⟨ha, by rw [List.length_map]; exact hl, vs, _, rv, ha⟩
      · have z' := (if_neg hb).symm.trans z
        cases z'
    · by_cases hb : b = a
      · exact hb
      · exact absurd (if_neg hb) z
end L2

namespace L2
open PySem PySem.Spec PyProof.Rows

noncomputable abbrev KOf {K : PySem.W.Frag} {h : Heap} (_ : K.In h) : PySem.W.Frag := K

/-- the goal that k_head leaves (case hc), from the law's promise. F gives the function object fd (K's own) once, then the promise over every base -/
theorem walk_of {l : PySem.W.OpenLaw} {n k : Nat} {q : Program} {loose : List Str} {XP : (Str → Option Value) → Heap → Prop} {YP : World → Heap → Prop} {d : DefRec} {K : Params → PySem.W.Frag} {CX : World → CXT} {sp : World → Sp} {x : Str}
    (hn : l.most = some n) (hn2 : n ≤ sizeLine) (hdf : d.params.defaults = []) (hr : Room k callerA)
    (hY : ∀ (w : World) (h : Heap), YP w h → (K w.params).In h)
    (F : ∀ (w : World) (mg : Str → Option Value) (fa : Addr) (h : Heap), (K w.params).In h → h.Ns mainGlobals mg → mg d.name = some (.ref fa) →
      ∃ fd : FuncData, (∀ (s : Shared) (u : Value), BindsTo s fd ⟨[u], []⟩ [(x, u)]) ∧
        ∀ base : Heap, (K w.params).In base → base.Ns mainGlobals mg → FnOk l.prog w (K w.params) mg base (CX w) k fa fd [x] (sp w))
    (hsp : ∀ (w : World) (H : Hp) (a : Addr) (ns : List Int), ns.length ≤ n → Only H → SqL (K w.params) H a (ns.map V.int) → sp w [.ref a] H (fun v _ => v = .bl true) fun _ _ _ => False)
    (hCX : ∀ (w : World) (H : Hp) (s : Shared) (e : Value) (s' : Shared), CX w [] H s (fun _ _ _ => False) e s' → False) :
    PySem.W.WalkO q loose XP YP l.row.toRowW d [] (fun f vs => PySem.call f vs) := by
  refine Att.attach_call hn hdf fun w s₀ s₁ mg mb fa o pm cd doc a vs ns G Y ho hd hcd hmg hobj hints hlen hg => ?_
  have KX := hY w _ Y
  obtain ⟨fd, hb, hF⟩ := F w mg fa _ KX G.T.g hmg
  exact law_call KX G.T.g G.T.b G.T.builtins G.T.nolimit hg hobj hints (Nat.le_trans hlen hn2) hr hF hb (fun H hO hS => hsp w H a ns hlen hO hS) fun H e s' => hCX w H s₁ e s'
end L2

/- THE LAST THEOREM (shape; LID, My.* are yours):
   My.Adr: a structure of the addresses that your layer names (classes, functions); My.Txt K t: a structure (Prop) of the equations over K;
   My.txt_mk : {K} {implicit addresses ..} (e1 : nsIn K mainGlobals "law" = some (some (.ref f))) (e2 : K.lookup f = some ⟨oc, od, .func (fnOf "law" "law" params body scope dV kV doc pm an cdv ct), sl⟩) (e3 : codeIn K cdv "law" = true) .. : ∃ t, My.Txt K t

set_option maxRecDepth 100000 in
set_option maxHeartbeats 0 in
theorem PySem.Challenge.cw_LID_holds : PySem.Challenge.rw_LID.Holds := by
  w_on; o_law; k_head; (case hw => w_witness2)
  k_fill
  refine L2.walk_of (l := PySem.Challenge.rw_LID) (n := 63) (k := 40) (x := "script") (CX := fun w => ..) (sp := fun _ => My.sp_law) rfl (by decide) rfl ⟨rfl, by decide, by decide⟩ (fun w h Y => PySem.W.kIn_of Y) ?F ?S ?C
  case F =>
    intro w mg fa h KX G hmg
    have T : ∃ t, My.Txt (L2.KOf KX) t := by
      dsimp only [L2.KOf]                          -- K must stand as «<heap const> w.params» for k_is
      refine' My.txt_mk ?e1 ?e2 ?e3 ..
      (case e1 => PySem.W.k_is)                    -- in the order: a name -> its address -> its object -> its parts
      (case e2 => PySem.W.k_is)
      ..
    obtain ⟨t, T⟩ := T
    have e0 := hmg.symm.trans (PySem.W.mg_of KX G T.law)
    cases e0                                       -- fa is the law's own address
    exact ⟨_, fun s u => .of_eq rfl, fun base kb nb => My.law_fn T kb nb⟩     -- if «.of_eq rfl» comes too early: refine' ⟨_, ?b, fun base kb nb => My.law_fn T kb nb⟩; exact fun s u => .of_eq rfl
  case S => exact fun w H a ns hl hO hS => ..
  case C => exact ..
(the tactic k_is has no namespace: write k_is) -/

/-! SHORT WORDS over the layer: a def of the text, its body, what a loop and a test want. -/
namespace L2
open PySem PySem.Spec PyProof.Rows

/-! ### the text by places -/
noncomputable def defArgs (s : Stmt) : Arguments := match s with
  | .FunctionDef _ a _ _ _ _ _ _ _ _ => a
  | _ => { posonlyargs := [], args := [], vararg := none, kwonlyargs := [], kw_defaults := [], kwarg := none, defaults := [] }
noncomputable def defBody (s : Stmt) : List Stmt := match s with
  | .FunctionDef _ _ b _ _ _ _ _ _ _ => b
  | _ => []
noncomputable def defScope (s : Stmt) : Scope := match s with
  | .FunctionDef _ _ _ _ _ _ sc _ _ _ => sc
  | _ => { kind := .function, names := [], isGenerator := false, isCoroutine := false }

/-! ### no exception leaves a def -/
noncomputable abbrev CX0 : CXT := fun _ _ _ _ _ _ => False
noncomputable abbrev E0 : XK := fun _ _ _ => False
theorem pass0 {X : Cx} : Passes CX0 X E0 := fun _ _ _ _ _ _ _ h => h.elim

/-! ### a def (or method) of the text as it stands behind the top -/
structure Fun (K : PySem.W.Frag) (x qual : Str) (st : Stmt) (f : Addr) (fd : FuncData) : Prop where
  ex : ∃ (oc : Value) (od : Option Addr) (kV doc pm : Value) (an : Option Addr) (cdv ct : Value) (osl : Array (Option Value)),
    fd = PySem.W.fnOf x qual (defArgs st) (defBody st) (defScope st) .none kV doc pm an cdv ct ∧ K.lookup f = some ⟨oc, od, .func fd, osl⟩ ∧ PySem.W.codeIn K cdv qual = true
  kp : PySem.W.keepIn K (.ref f) = true
section
variable {P : Program} {w : World} {K : PySem.W.Frag} {mg : Str → Option Value} {base : Heap}
/-- THE RULE for a def: its body as a term of rules, and the reading of that term -/
theorem Fun.ok {x qual : Str} {st : Stmt} {f : Addr} {fd : FuncData} {N ps : List Str} {k : Nat} {sp : Sp} (F : Fun K x qual st f fd) (S : FnScope N ps (defScope st)) (len : ∀ vs H Q E, sp vs H Q E → vs.length = ps.length)
    (hbody : ∀ (cdv : Value) (A : Around) (outer : List Env) (s : Shared) (H : Hp) (vs : List V) (Q : VK) (E : XK), Room k (A.deeper (envOfC qual (defScope st) s.heap.objs.size f cdv)) → sp vs H Q E →
      ∃ t, PSs (cxOf CX0 P w K mg base N qual (defScope st) f cdv A outer s H E).nox (defBody st) t ∧ t { nx := fun _ H' => Q .non H', rt := Q } (start N vs) H) : FnOk P w K mg base CX0 (k + 1) f fd ps sp := by
  obtain ⟨oc, od, kV, doc, pm, an, cdv, ct, osl, rfl, lk, hcd⟩ := F.ex
  refine fn_of lk hcd S len fun A outer s H vs Q E hr hsp => ?_
  obtain ⟨t, h, q⟩ := hbody cdv A outer s H vs Q E hr hsp
  exact ⟨t, h.nox, q⟩
/-- how its arguments bind (no defaults): h is «fun _ _ _ _ _ _ us hl => match us, hl with | [_, _], _ => rfl», one _ a parameter -/
theorem Fun.binds {x qual : Str} {st : Stmt} {f : Addr} {fd : FuncData} {ps : List Str} (F : Fun K x qual st f fd)
    (h : ∀ (kV doc pm : Value) (an : Option Addr) (cdv ct : Value) (us : List Value), us.length = ps.length → bindArgs (PySem.W.fnOf x qual (defArgs st) (defBody st) (defScope st) .none kV doc pm an cdv ct) ⟨us, []⟩ = pure (ps.zip us)) : Binds K fd ps [] := by
  obtain ⟨oc, od, kV, doc, pm, an, cdv, ct, osl, rfl, lk, hcd⟩ := F.ex
  exact .all (h kV doc pm an cdv ct)
theorem fun_mk {x qual : Str} {st : Stmt} {f : Addr} {oc : Value} {od an : Option Addr} {osl : Array (Option Value)} {kV doc pm cdv ct : Value} (l : K.lookup f = some ⟨oc, od, .func (PySem.W.fnOf x qual (defArgs st) (defBody st) (defScope st) .none kV doc pm an cdv ct), osl⟩)
    (c : PySem.W.codeIn K cdv qual = true) (k : PySem.W.keepIn K (.ref f) = true) : Fun K x qual st f (PySem.W.fnOf x qual (defArgs st) (defBody st) (defScope st) .none kV doc pm an cdv ct) := ⟨⟨oc, od, kV, doc, pm, an, cdv, ct, osl, rfl, l, c⟩, k⟩
end
theorem small1000 {n : Nat} (h : n ≤ 1000) : n < sizeLine := Nat.lt_of_le_of_lt h (by decide)

/-! ### expressions in short: the name that stands in the i-th slot -/
section
variable {X : Cx}
theorem pv (i : Nat) {x : Str} {pos : Pos} (hN : X.N[i]? = some x := by rfl) (hv : Vis X.env.scope x := by first | exact Or.inl rfl | exact Or.inr (Or.inl rfl) | exact Or.inr (Or.inr rfl)) (hd : (x == ("__debug__" : Str)) = false := by decide)
    (hcd : (x == ("__classdict__" : Str)) = false := by decide) : PE X (.Name x pos) (tVar i) := pe_var hN hv hd hcd
end

/-! ### tests -/
theorem ite2 {c A B : Prop} [Decidable c] (h1 : c → A) (h2 : ¬ c → B) : if c then A else B := by
  by_cases h : c
  · rw [if_pos h]
    exact h1 h
  · rw [if_neg h]
    exact h2 h

/-! ### heaps -/
/-- all that was tracked is as it was -/
noncomputable def Same (H H' : Hp) : Prop := ∀ b o, H b = some o → H' b = some o
theorem Same.refl (H : Hp) : Same H H := fun _ _ h => h
theorem Same.trans {H H1 H2 : Hp} (a : Same H H1) (b : Same H1 H2) : Same H H2 := fun c o h => b c o (a c o h)
theorem Same.free {H H' : Hp} (e : Same H H') {l : Addr} (h : H' l = Option.none) : H l = Option.none := by
  cases q : H l with
  | none => rfl
  | some o =>
    rw [e l o q] at h
    cases h
theorem Same.seq {K : PySem.W.Frag} {H H' : Hp} {a : Addr} {xs : List V} (e : Same H H') (h : SqL K H a xs) : SqL K H' a xs := by
  rcases h with (h | ⟨o, h⟩) | h
  · exact .inl (.inl (e _ _ h))
  · exact .inl (.inr ⟨o, e _ _ h⟩)
  · exact .inr h

end L2

end
section
-- text: PpDict
set_option Elab.async false
set_option linter.all false
set_option maxRecDepth 100000
namespace L2
open PySem PySem.Spec PyProof.Rows

/-! ### lists of pairs as tables -/
section
variable {κ : Type} [DecidableEq κ]



end


/-! ### a tracked dict, its keys ints and texts or tuples of these -/

/-- raw entries of a dict with tuple keys -/
noncomputable abbrev KT (H : Hp) : List (List Key × V) → List (List Key × Addr × Value) → Prop := Paired fun p q => p.1 = q.1 ∧ H q.2.1 = some (.tup (p.1.map kV)) ∧ RelV p.2 q.2.2

section
variable {P : Program} {w : World} {H : Hp} {h : Heap} {a : Addr}
end



section
variable {X : Cx} {pins : List (Addr × Obj)} {σ : St} {H : Hp} {s : Shared} {a : Addr} {y v : V} {u r : Value} {o : Option V} {A : Around} {E : Value → Shared → Prop}

theorem Inv.big (I : Inv X pins σ H s) : sysModules < s.heap.objs.size := by
  have h : mainGlobals < s.heap.objs.size := (I.mod.glob.keeps I.bk).lt
  exact Nat.lt_trans (by decide) h

end

section
variable {X : Cx} {pins : List (Addr × Obj)} {σ : St} {H : Hp} {s : Shared} {a : Addr} {kvs : List (Key × V)} {k : Key} {u : Value} {A : Around} {E : Value → Shared → Prop}
end


/-! ### readings and rules -/



section
variable {X : Cx} {o i e value : Expr} {pos pos' tpos : Pos} {td ty tv : TE}
end


/-! ### displays -/
theorem dk_empty {P : Program} {w : World} {H : Hp} (h : Heap) (hb : sysModules < h.objs.size) : ObjOk P w H (h.push { cls := .type "dict", data := .dict #[] }) h.objs.size (.dK []) :=
  ⟨Nat.zero_le _, beq_eq_false_iff_ne.mpr (Ne.symm (Nat.ne_of_lt hb)), [], .nil, Heap.DictOf.new h⟩
/-- {}, to be a dict of the kind that is wanted -/
noncomputable def tDNewK : TE := fun _ H Q => ∀ p, H p = none → Q (.ref p) (upd H p (.dK []))
section
variable {X : Cx} {pos : Pos}
theorem pe_dnewK : PE X (.Dict [] [] pos) tDNewK := fun pins s σ H Q I h =>
  wpAny_Dict_empty ⟨.ref s.heap.objs.size, _, I.laid (a := s.heap.objs.size) (o := .dK []) (t' := s.toks) (fun _ _ q => Heap.get?_push_of_some _ q) (Nat.le_refl _) (dk_empty s.heap I.big), rfl, h _ (I.hok.fresh (Nat.le_refl _))⟩
end

noncomputable abbrev VV : List (V × V) → List (Value × Value) → Prop := Paired fun p q => RelV p.1 q.1 ∧ RelV p.2 q.2



/-! ### methods -/
/-- a method call o.m(e) of a built-in, with one argument: what must be seen of the text -/
structure M1 (X : Cx) (o : Expr) (m : Str) (apos : Pos) (e : Expr) (cpos : Pos) : Prop where
  base : attributeBase o m X.env (eval o X.env) = eval o X.env
  few : ((backTo cpos (starEach [e] X.env)).all (fun x => !x.1) && (backToKw cpos (keywordEach [] X.env)).all (fun x => x.1.isSome)
    && decide (([e] : List Expr).length + ([] : List Keyword).length + (if ([] : List Keyword).isEmpty then 0 else 1) < 30)) = true
  line : (apos.endLine == cpos.line) = true
  trees : backTo cpos (starEach [e] X.env) = [(false, eval e X.env)]
structure M2 (X : Cx) (o : Expr) (m : Str) (apos : Pos) (e f : Expr) (cpos : Pos) : Prop where
  base : attributeBase o m X.env (eval o X.env) = eval o X.env
  few : ((backTo cpos (starEach [e, f] X.env)).all (fun x => !x.1) && (backToKw cpos (keywordEach [] X.env)).all (fun x => x.1.isSome)
    && decide (([e, f] : List Expr).length + ([] : List Keyword).length + (if ([] : List Keyword).isEmpty then 0 else 1) < 30)) = true
  line : (apos.endLine == cpos.line) = true
  trees : backTo cpos (starEach [e, f] X.env) = [(false, eval e X.env), (false, eval f X.env)]


section
variable {X : Cx} {pins : List (Addr × Obj)} {σ : St} {H : Hp} {s : Shared} {a : Addr} {y d : V} {u r : Value} {o : Option V} {A : Around} {E : Value → Shared → Prop}
end

section
variable {X : Cx} {o e f : Expr} {apos cpos : Pos} {td ty tx : TE}
end

/-! ### dict(d): a copy -/
section
variable {X : Cx} {pins : List (Addr × Obj)} {σ : St} {H : Hp} {s : Shared} {a : Addr} {kvs : List (Key × V)} {A : Around} {E : Value → Shared → Prop}
end


section
variable {X : Cx} {pins : List (Addr × Obj)} {σ : St} {H : Hp} {s : Shared} {a : Addr} {y : V} {u : Value} {A : Around} {E : Value → Shared → Prop}
end
end L2

namespace L2
open PySem PySem.Spec PyProof.Rows
section
variable {X : Cx}
end
end L2
namespace L2
open PySem PySem.Spec PyProof.Rows
/-! ### a dict's pairs: keys that differ -/
section
variable {κ : Type} [DecidableEq κ]
end
end L2


end
section
-- text: ExtA
set_option Elab.async false
set_option linter.all false
set_option maxRecDepth 100000
set_option maxHeartbeats 4000000
namespace L2
open PySem PySem.Spec PyProof.Rows

/-! ### a list comprehension of one clause, no exception in it -/
section
variable {prog : Program} {w : World} {A : Around} {R : Result → Shared → Prop} {s : Shared}
theorem compLoop_go {elt target iter : Expr} {ifs : List Expr} {scope : Scope} {pos : Pos} {it acc : Value} {env : Env} (I : Nat → Shared → Prop)
    (turn : ∀ n s, I n s → wpAny (model prog w) A (pyNext it) (fun r s₁ => match r with
      | none => R (.ok .next) s₁
      | some v => wpAny (model prog w) A (letOwnedTupleGo target it v) (fun _ s₁' => wpAny (model prog w) A (assign target env v) (fun _ s₂ =>
          wpAny (model prog w) A (forIn ifs true fun c r => if r = true then do let ok ← isTrue c env (eval c env); pure (ForInStep.yield ok) else pure (ForInStep.yield r)) (fun ok s₃ =>
            if ok = true then wpAny (model prog w) A (eval elt env) (fun x s₄ =>
              wpAny (model prog w) A (call (.builtin "list.append") [acc, x]) (fun _ s₅ => ∃ m, m < n ∧ I m s₅) (fun _ _ => False) s₄) (fun _ _ => False) s₃
            else ∃ m, m < n ∧ I m s₃) (fun _ _ => False) s₂) (fun _ _ => False) s₁') (fun _ _ => False) s₁) (fun _ _ => False) s)
    (n : Nat) (h : I n s) : codeAny (model prog w) A (.compLoop (.ListComp elt [⟨target, iter, ifs, 0⟩] scope pos) 0 it acc env) R s := by
  refine codeAny_loop rfl I (fun n s hI => ?_) n h
  show wpAny _ A ((compTurn (.ListComp elt [⟨target, iter, ifs, 0⟩] scope pos) 0 it acc env).onRaise (fun x => do noteFrame x env; theTreesLotGoes x)) _ _ s
  refine wpAny_noted (wpAny_noRaise ?_)
  rw [compTurn_list]
  refine wpAny_bind (wpAny_standAt (wpAny_bind (wpAny_mono (turn n s hI) (fun r s₁ h₁ => ?_) fun _ _ h' => h')))
  cases r with
  | none => exact wpAny_pure h₁
  | some v =>
    refine wpAny_bind (wpAny_mono h₁ (fun _ s₁' h₁' => ?_) fun _ _ h' => h')
    refine wpAny_bind (wpAny_mono h₁' (fun _ s₂ h₂ => wpAny_bind (wpAny_mono h₂ (fun ok s₃ h₃ => ?_) fun _ _ h' => h')) fun _ _ h' => h')
    cases ok with
    | false => exact wpAny_pure ⟨rfl, h₃⟩
    | true =>
      exact wpAny_bind (wpAny_bind (wpAny_mono h₃ (fun x s₄ h₄ => wpAny_bind (wpAny_mono h₄ (fun _ s₅ h₅ => wpAny_pure (wpAny_pure ⟨rfl, h₅⟩)) fun _ _ h' => h')) fun _ _ h' => h'))
end

theorem lookup_mem {α : Type} {x : Str} {k : α} : ∀ {l : List (Str × α)}, l.lookup x = some k → (x, k) ∈ l := fun h => PySem.mem_of_lookup h

theorem closureFor_some {scope : Scope} {env : Env} (h : ∀ x ∈ scope.names, x.2 = .free → ∃ c, env.cells.lookup x.1 = some c) :
    ∃ cl, closureFor scope env = pure cl ∧ (∀ n c, cl.lookup n = some c → env.cells.lookup n = some c) ∧ (∀ n, (n, NameKind.free) ∈ scope.names → ∃ c, cl.lookup n = some c) := by
  have aux : ∀ (names : List (Str × NameKind)) (cs : List (Str × Addr)), (∀ x ∈ names, x.2 = .free → ∃ c, env.cells.lookup x.1 = some c) → (∀ n c, cs.lookup n = some c → env.cells.lookup n = some c) →
      ∃ cl, (forIn names cs fun x r => if (x.2 == NameKind.free) = true then do let a ← cellOf env x.1; pure (ForInStep.yield ((x.1, a) :: r)) else pure (ForInStep.yield r) : Sem (List (Str × Addr))) = pure cl ∧
        (∀ n c, cl.lookup n = some c → env.cells.lookup n = some c) ∧ (∀ n, ((n, NameKind.free) ∈ names ∨ ∃ c, cs.lookup n = some c) → ∃ c, cl.lookup n = some c) := by
    intro names
    induction names with
    | nil => intro cs _ hc; exact ⟨cs, rfl, hc, fun n h => h.elim (fun z => nomatch z) id⟩
    | cons x r ih =>
      intro cs hx hc
      obtain ⟨n, k⟩ := x
      have hr : ∀ x ∈ r, x.2 = .free → ∃ c, env.cells.lookup x.1 = some c := fun y hy => hx y (List.mem_cons_of_mem _ hy)
      by_cases hk : k = .free
      · subst hk
        obtain ⟨c, e⟩ := hx (n, .free) List.mem_cons_self rfl
        have hc' : ∀ m d, List.lookup m ((n, c) :: cs) = some d → env.cells.lookup m = some d := fun m d hm => by
          rw [List.lookup_cons] at hm
          cases hb : m == n with
          | true => rw [hb] at hm; cases hm; rw [eq_of_beq hb]; exact e
          | false => rw [hb] at hm; exact hc m d hm
        obtain ⟨cl, h1, h2, h3⟩ := ih ((n, c) :: cs) hr hc'
        refine ⟨cl, ?_, h2, fun m hm => h3 m ?_⟩
        · rw [List.forIn_cons]
          have e2 : cellOf env n = pure c := by unfold cellOf; rw [e]
          simp only [beq_self_eq_true, if_true, e2]
          exact h1
        · rcases hm with hm | ⟨d, hm⟩
          · rcases List.mem_cons.mp hm with q | q
            · cases q; exact .inr ⟨c, by rw [List.lookup_cons, beq_self_eq_true]⟩
            · exact .inl q
          · refine .inr ?_
            rw [List.lookup_cons]
            cases hb : m == n with
            | true => exact ⟨c, rfl⟩
            | false => exact ⟨d, hm⟩
      · obtain ⟨cl, h1, h2, h3⟩ := ih cs hr hc
        refine ⟨cl, ?_, h2, fun m hm => h3 m ?_⟩
        · rw [List.forIn_cons]
          have : (k == NameKind.free) = false := by simpa using hk
          simp only [this, Bool.false_eq_true, if_false]
          exact h1
        · rcases hm with hm | hm
          · rcases List.mem_cons.mp hm with q | q
            · cases q; exact absurd rfl hk
            · exact .inl q
          · exact .inr hm
  obtain ⟨cl, h1, h2, h3⟩ := aux scope.names [] h (fun n c z => by simp at z)
  refine ⟨cl, ?_, h2, fun n hn => h3 n (.inl hn)⟩
  simp only [closureFor]
  rw [h1]
  rfl

theorem relabel_lookup {env : Env} : ∀ {names : List (Str × NameKind)} {x : Str} {k : NameKind},
    (names.map fun (n, k) => if (k == NameKind.free && env.scope.kind == .function && env.kindOf n == some .cell) then (n, NameKind.cell) else (n, k)).lookup x = some k → (k = .cell ∨ k = .free) →
    names.lookup x = some .free ∨ names.lookup x = some .cell
  | [], _, _, h, _ => by simp at h
  | (n, q) :: r, x, k, h, hk => by
    have ih := @relabel_lookup env r x k
    rw [List.map_cons, List.lookup_cons] at h
    rw [List.lookup_cons]
    by_cases hc : (q == NameKind.free && env.scope.kind == .function && env.kindOf n == some .cell) = true
    · simp only [if_pos hc] at h
      cases hx : x == n with
      | true =>
        have : q = .free := by
          have := (Bool.and_eq_true_iff.mp (Bool.and_eq_true_iff.mp hc).1).1
          exact eq_of_beq this
        simp [this]
      | false => rw [hx] at h; exact ih h hk
    · simp only [if_neg hc] at h
      cases hx : x == n with
      | true =>
        rw [hx] at h
        cases h
        rcases hk with rfl | rfl
        · exact .inr rfl
        · exact .inl rfl
      | false => rw [hx] at h; exact ih h hk
theorem relabel_free {env : Env} : ∀ {names : List (Str × NameKind)} {x : Str}, names.lookup x = some .free →
    (names.map fun (n, k) => if (k == NameKind.free && env.scope.kind == .function && env.kindOf n == some .cell) then (n, NameKind.cell) else (n, k)).lookup x = some .cell ∨
    (names.map fun (n, k) => if (k == NameKind.free && env.scope.kind == .function && env.kindOf n == some .cell) then (n, NameKind.cell) else (n, k)).lookup x = some .free
  | [], _, h => by simp at h
  | (n, q) :: r, x, h => by
    have ih := @relabel_free env r x
    rw [List.map_cons, List.lookup_cons]
    rw [List.lookup_cons] at h
    by_cases hc : (q == NameKind.free && env.scope.kind == .function && env.kindOf n == some .cell) = true
    · simp only [if_pos hc]
      cases hx : x == n with
      | true => exact .inl rfl
      | false => rw [hx] at h; exact ih h
    · simp only [if_neg hc]
      cases hx : x == n with
      | true => rw [hx] at h; cases h; exact .inr rfl
      | false => rw [hx] at h; exact ih h

/-- the context of a comprehension's block -/
noncomputable def cxC (X : Cx) (N : List Str) (scope : Scope) (cl : List (Str × Addr)) (C : Addr) (fp : List Addr) (s : Shared) (H : Hp) : Cx :=
  { prog := X.prog, w := X.w, K := X.K, mg := X.mg, base := X.base, A := X.A, N := N, s₀ := s, H₀ := H, env := compEnvC scope cl C X.env, outer := X.stack, stack := X.stack, ex := fp, fn := fun _ => false, calm := X.calm, pn := [], xe := fun _ _ => False }

/-- the names of a comprehension: its targets tg, the captured names cp, which stand at the places ci of the def's names -/
structure CSc (M : List Str) (sc : Scope) (tg cp : List Str) (ci : List Nat) (scope : Scope) : Prop where
  kind : scope.kind = .function
  nocell : ∀ x ∈ scope.names, x.2 ≠ .cell
  loc : ∀ x ∈ scope.names, x.2 = .local → scope.names.lookup x.1 = some .local
  free : ∀ x ∈ scope.names, x.2 = .free → sc.names.lookup x.1 = some .cell ∨ sc.names.lookup x.1 = some .free
  cap : ∀ x ∈ cp, scope.names.lookup x = some .free
  at_ : ci.map (M[·]?) = cp.map some
  nd : (tg ++ cp).Nodup
noncomputable def capσ (k : Nat) (ci : List Nat) (σ : St) : St := List.replicate k none ++ ci.map fun i => (σ[i]?).join

noncomputable abbrev TComp := Nat → Nat → List V → Hp → Prop
noncomputable def tComp (wi : TI) (k : Nat) (ci : List Nat) (g : TG) (ti : TT) (te : TE) : TE := fun σ H Q => wi σ H fun J H1 => ∃ W : TComp, (∃ m, W 0 m [] H1) ∧ ∀ i m acc H, W i m acc H →
  (J.stop i H ∧ ∀ D, H D = none → Q (.ref D) (upd H D (.lst acc))) ∨
  (J.go i H ∧ acc.length < sizeLine ∧ ∃ N : List V → Hp → Prop, (∀ acc' H', N acc' H' → ∃ m', m' < m ∧ W (i + 1) m' acc' H') ∧ ∀ x H', J.yld i H x H' → g x (capσ k ci σ) H' fun σ2 H2 => ti σ2 H2 fun b H3 => if b = true then te σ2 H3 fun v H4 => N (acc ++ [v]) H4 else N acc H3)
/-- the tests of a clause -/
noncomputable def PIfs (X : Cx) (ifs : List Expr) (t : TT) : Prop :=
  ∀ (pins : List (Addr × Obj)) (s : Shared) (σ : St) (H : Hp) (Q : Bool → Hp → Prop), Inv X pins σ H s → t σ H Q →
    wpAny (model X.prog X.w) X.A (forIn ifs true fun c r => if r = true then do let ok ← isTrue c X.env (eval c X.env); pure (ForInStep.yield ok) else pure (ForInStep.yield r)) (TP X pins σ Q) X.xe s
noncomputable def tNoIf : TT := fun _ H Q => Q true H
theorem pifs_nil {X : Cx} : PIfs X [] tNoIf := fun pins s σ H Q I h => wpAny_tests_nil ⟨H, I, h⟩

section
variable {X : Cx}
/-- C, the block's own names, behind the block -/
structure Gone (X : Cx) (pins : List (Addr × Obj)) (H : Hp) (s : Shared) (C : Addr) : Prop where
  ns : ∃ m, s.heap.Ns C m
  free : H C = none
  ne : C ≠ X.env.locals
  ab : X.s₀.heap.objs.size ≤ C
  cells : ∀ x c, X.env.cells.lookup x = some c → c ≠ C
  pins : ∀ p ∈ X.pn ++ pins, p.1 ≠ C
  nofs : C ∉ X.fs

theorem comp_run {elt target iter : Expr} {ifs : List Expr} {scope : Scope} {pos : Pos} {tg cp : List Str} {ci : List Nat} {wi : TI} {g : TG} {ti : TT} {te : TE}
    {pins : List (Addr × Obj)} {s : Shared} {σ : St} {H : Hp} {Q : VK} {cl : List (Str × Addr)}
    (S : CSc X.N X.env.scope tg cp ci scope) (hcalm : X.calm = true) (hi : PI X target iter wi)
    (hcl1 : ∀ n c, cl.lookup n = some c → X.env.cells.lookup n = some c) (hcl2 : ∀ n, (n, NameKind.free) ∈ scope.names → ∃ c, cl.lookup n = some c)
    (hg : ∀ C fp s H, PG (cxC X (tg ++ cp) scope cl C fp s H) target g) (ht : ∀ C fp s H, PIfs (cxC X (tg ++ cp) scope cl C fp s H) ifs ti) (he : ∀ C fp s H, PE (cxC X (tg ++ cp) scope cl C fp s H) elt te)
    (I : Inv X pins σ H s) (h : tComp wi tg.length ci g ti te σ H Q) :
    wpAny (model X.prog X.w) X.A (eval iter X.env) (fun x s₁ => wpAny (model X.prog X.w) X.A (pyIter x) (fun it s₂ => wpAny (model X.prog X.w) X.A (newList []) (fun acc s₃ =>
      wpAny (model X.prog X.w) X.A (newFunctionEnv scope X.env.globals cl [] X.env.qual none .none (some X.env)) (fun cenv s₄ =>
        codeAny (model X.prog X.w) X.A (.compStart (.ListComp elt [⟨target, iter, ifs, 0⟩] scope pos) 0 it acc { cenv with scope := relabel scope X.env })
          (fun r s' => ∃ D vs H', acc = .ref D ∧ r = .ok .next ∧ Inv X pins σ (upd H' D (.lst vs)) s' ∧ H' D = none ∧ Gone X pins (upd H' D (.lst vs)) s' cenv.locals ∧ ∀ D', H' D' = none → Q (.ref D') (upd H' D' (.lst vs))) s₄) X.xe s₃) X.xe s₂) X.xe s₁) X.xe s := by
  refine thn (hi pins s σ H _ I h) fun v s1 h1 => thn h1 fun itv s2 h2 => ?_
  obtain ⟨it, fp, tn, J, H2, e, I2, T, st2, f2, W, ⟨m0, w0⟩, turn⟩ := h2
  subst e
  refine wpAny_newObj_type (wpAny_newFunctionEnv S.nocell (by intro y hy; simp at hy) (fun h₁ hns₁ hsb₁ => ?_) S.kind)
  dsimp only at hns₁ hsb₁ ⊢
  generalize hHL : s2.heap.push { cls := .type "list", dict := none, data := .seq ([] : List Value).toArray } = HL at hns₁ hsb₁ ⊢
  have hC : HL.objs.size = s2.heap.objs.size + 1 := by rw [← hHL, Heap.size_push]
  -- the two new addresses
  generalize hD : s2.heap.objs.size = D at hC ⊢
  generalize hCC : HL.objs.size = C at hns₁ hsb₁ hC ⊢
  have hDC : D ≠ C := by lia
  have old : ∀ b o, s2.heap.get? b = some o → h₁.get? b = some o := fun b o e => by
    have lt : s2.heap.objs.size ≥ Nat.succ b := Heap.lt_size e
    refine hsb₁.extBut b o (show @Ne Nat b C by lia) (Heap.get?_push_of_some _ (hHL ▸ Heap.get?_push_of_some _ e))
  have hD1 : h₁.get? D = some { cls := .type "list", data := .seq ([] : List Value).toArray 0 } := by
    refine hsb₁.extBut D _ hDC (Heap.get?_push_of_some _ ?_)
    rw [← hHL, ← hD]
    exact Heap.get?_push_size _ rfl
  have fD : H2 D = none := I2.hok.fresh (by lia)
  have fC : H2 C = none := I2.hok.fresh (by lia)
  let X' : Cx := cxC X (tg ++ cp) scope cl C fp s2 H2
  have ok' : X'.Ok := by
    refine ⟨I2.ok.mod, ?_, I2.ok.glob, I2.ok.blt, ?_, ?_, ?_, ?_, I2.ok.hd, I2.ok.frames, .inl rfl, ?_, I2.bs, Nat.le_trans I2.ok.bsz I2.sz, ?_, ?_, I2.stack, I2.stkFree⟩
    · exact S.kind
    · show s2.heap.objs.size ≤ C; lia
    · intro x y c hx hy; exact I2.ok.inj x y c (hcl1 x c hx) (hcl1 y c hy)
    · intro x hx
      have hx' : (relabel scope X.env).names.lookup x = some .cell ∨ (relabel scope X.env).names.lookup x = some .free := hx
      have q : scope.names.lookup x = some .free ∨ scope.names.lookup x = some .cell := by
        rcases hx' with z | z
        · exact relabel_lookup z (.inl rfl)
        · exact relabel_lookup z (.inr rfl)
      rcases q with q | q
      · exact hcl2 x (lookup_mem q)
      · exact absurd rfl (S.nocell _ (lookup_mem q))
    · intro x c hx; cases hx
    · intro b hb
      obtain ⟨o, eo, _⟩ := T.obj _ _ st2 b hb
      have lt : s2.heap.objs.size ≥ Nat.succ b := Heap.lt_size eo
      exact ⟨by show @Ne Nat b C; lia, fun x c hx => (f2 b hb).2.2.2.2.1 x c (hcl1 x c hx)⟩
    · intro b o e hb
      rcases (f2 b hb).2.2.2.1 with z | z
      · exact I2.ok.noex b o e z
      · have l1 : X.base.objs.size ≥ Nat.succ b := Heap.lt_size e
        have l2 : X.base.objs.size ≤ X.s₀.heap.objs.size := I2.ok.bsz
        have l3 : X.s₀.heap.objs.size ≤ (b : Nat) := z
        lia
    · intro b hb hbs
      rcases List.mem_cons.mp (I2.stkSub b hbs) with z | z
      · exact (f2 b hb).2.1 z
      · exact (f2 b hb).2.2.1 z
  have capLen : (capσ tg.length ci σ).length = X'.N.length := by
    show (List.replicate tg.length none ++ ci.map fun i => (σ[i]?).join).length = (tg ++ cp).length
    have := congrArg List.length S.at_
    simp only [List.length_map] at this
    simp [this]
  have capLook : ∀ (h' : Heap) (m' : Str → Option Value), (∀ x c o, X.env.cells.lookup x = some c → s2.heap.get? c = some o → ∃ sl, h'.get? c = some { o with slots := sl }) →
      ∀ (i : Nat) (x : Str) (v : V), X'.N[i]? = some x → (capσ tg.length ci σ)[i]? = some (some v) → Vis X'.env.scope x → ∃ u, RelV v u ∧ Look X'.env h' m' x u := by
    intro h' m' hcell i x v e1 e2 e3
    have e1' : (tg ++ cp)[i]? = some x := e1
    have e2' : (List.replicate tg.length none ++ ci.map fun i => (σ[i]?).join)[i]? = some (some v) := e2
    by_cases hi' : i < tg.length
    · rw [List.getElem?_append_left (by simpa using hi'), List.getElem?_replicate] at e2'
      split at e2' <;> cases e2'
    · rw [List.getElem?_append_right (by simpa using hi'), List.length_replicate, List.getElem?_map] at e2'
      rw [List.getElem?_append_right (by lia)] at e1'
      cases hj : ci[i - tg.length]? with
      | none => rw [hj] at e2'; cases e2'
      | some j =>
        rw [hj] at e2'
        have e2'' : (σ[j]?).join = some v := Option.some.inj e2'
        have e4 : σ[j]? = some (some v) := by
          cases q : σ[j]? with
          | none => rw [q] at e2''; cases e2''
          | some z => rw [q] at e2''; exact congrArg some e2''
        have e5 : X.N[j]? = some x := by
          have := congrArg (·[i - tg.length]?) S.at_
          simp only [List.getElem?_map, hj, e1', Option.map_some] at this
          exact Option.some.inj this
        have hx : scope.names.lookup x = some .free := S.cap x (List.mem_of_getElem? e1')
        have hk := S.free (x, .free) (lookup_mem hx) rfl
        obtain ⟨m, hn, hl⟩ := I2.loc
        obtain ⟨u, r, l⟩ := hl j x v e5 e4 (.inr hk)
        refine ⟨u, r, .inr ⟨?_, ?_⟩⟩
        · exact relabel_free hx
        · rcases l with ⟨k1, _⟩ | ⟨_, c, k2, k3⟩
          · have k1' : X.env.scope.names.lookup x = some .local := k1
            rcases hk with z | z <;> (rw [z] at k1'; cases k1')
          · obtain ⟨c', hc'⟩ := hcl2 x (lookup_mem hx)
            have := hcl1 x c' hc'
            rw [k2] at this; cases this
            obtain ⟨o, ho, hd⟩ := k3
            obtain ⟨sl, q⟩ := hcell x c o k2 ho
            exact ⟨c, hc', _, q, hd⟩
  have I' : ∀ tk, Inv X' [] (capσ tg.length ci σ) H2 { s2 with heap := h₁, toks := tk } := fun tk => by
    refine ⟨ok', rfl, I2.bare, Un.kept old, ⟨_, hns₁, capLook _ _ fun x c o _ e => ⟨o.slots, old c o e⟩⟩, fun x c hx => ?_, fC, fun x c hx => I2.freeC x c (hcl1 x c hx), fun p hp => absurd (show p ∈ ([] : List (Addr × Obj)) from hp) (by simp), I2.hok.kept old, ?_⟩
    · obtain ⟨v, o, ho, hd⟩ := I2.cell x c (hcl1 x c hx)
      exact ⟨v, o, old c o ho, hd⟩
    · exact capLen
  have recap : ∀ {pl pl' : List (Addr × Obj)} {σ' : St} {H' : Hp} {s' : Shared}, Inv X' (pl ++ pl') σ' H' s' → Inv X' pl (capσ tg.length ci σ) H' s' := fun {pl pl' σ' H' s'} J => by
    obtain ⟨m, hn, _⟩ := J.loc
    have u : Un (frs X.stack) fp H2 H' s2.heap s'.heap := J.base
    exact ⟨J.ok, J.os, J.bare, J.base, ⟨m, hn, capLook _ _ fun x c o hx e => u.any e (I2.freeC x c hx) fun hb => (f2 c hb).2.2.2.2.1 x c hx rfl⟩, J.cell, J.free, J.freeC,
      fun p hp => (List.mem_append.mp hp).elim (fun z => J.pin p (List.mem_append_left _ z)) (fun z => J.pin p (List.mem_append_right _ (List.mem_append_left _ z))), J.hok, capLen⟩
  have stat : ∀ {H' : Hp}, (∀ b ∈ fp, H' b = none) → ∀ b ∈ fp, FpOk X' [] H' b := fun hn b hb => by
    obtain ⟨o, eo, _⟩ := T.obj _ _ st2 b hb
    have lt : s2.heap.objs.size ≥ Nat.succ b := Heap.lt_size eo
    exact ⟨hn b hb, by show @Ne Nat b C; lia, ok'.exfs b hb, .inl hb, (ok'.exf b hb).2, fun p hp => absurd (show p ∈ ([] : List (Addr × Obj)) from hp) (by simp)⟩
  have hDfp : D ∉ fp := fun hb => by obtain ⟨o, eo, _⟩ := T.obj _ _ st2 D hb; have lt : s2.heap.objs.size ≥ Nat.succ D := Heap.lt_size eo; lia
  have hDcell : ∀ x c, X'.env.cells.lookup x = some c → c ≠ D := fun x c hx => by
    obtain ⟨v, o, ho, hd⟩ := I2.cell x c (hcl1 x c hx)
    have lt : s2.heap.objs.size ≥ Nat.succ c := Heap.lt_size ho
    intro z; have z' : @Eq Nat c D := z; lia
  have hDfs : D ∉ X'.fs := fun hb => by
    have : D ∈ X.env.locals :: X.fs := I2.stkSub D hb
    rcases List.mem_cons.mp this with z | z
    · have l1 : s2.heap.objs.size ≥ Nat.succ X.env.locals := I2.lt
      have z' : @Eq Nat D X.env.locals := z
      lia
    · exact I2.nofs (show s2.heap.objs.size ≤ D by lia) z
  have fin : ∀ {pl : List (Addr × Obj)} {σ' : St} {H' : Hp} {s' : Shared} {vs : List V} {us : List Value} {k : Nat}, Inv X' pl σ' H' s' → H' D = none → s'.heap.get? D = some { cls := .type "list", data := .seq us.toArray k } → Vals vs us → vs.length ≤ sizeLine →
      (∀ D', H' D' = none → Q (.ref D') (upd H' D' (.lst vs))) →
      ∃ D' vs H', Value.ref D = .ref D' ∧ (Except.ok Flow.next : Result) = .ok .next ∧ Inv X pins σ (upd H' D' (.lst vs)) s' ∧ H' D' = none ∧ Gone X pins (upd H' D' (.lst vs)) s' C ∧ ∀ D', H' D' = none → Q (.ref D') (upd H' D' (.lst vs)) := by
    intro pl σ' H' s' vs us k J f e r z q
    have u : Un (frs X.stack) fp H2 H' s2.heap s'.heap := J.base
    have lt : ∀ {b : Addr} {o : Obj}, s2.heap.get? b = some o → b ≠ D := fun {b o} eb zb => by
      have l1 : s2.heap.objs.size ≥ Nat.succ b := Heap.lt_size eb
      have l2 : @Eq Nat b D := zb
      lia
    have u2 : Un (frs X.stack) fp H2 (upd H' D (.lst vs)) s2.heap s'.heap :=
      ⟨u.keep, u.slot, fun b o eb n hx => by rw [upd_ne (lt eb)]; exact u.free b o eb n hx, u.there,
       fun b xs eb => by rw [upd_ne (ne_of_none eb fD)]; exact u.tups b xs eb, fun b o uu eb => by rw [upd_ne (ne_of_none eb fD)]; exact u.frzs b o uu eb, fun b ps eb => by rw [upd_ne (ne_of_none eb fD)]; exact u.tbls b ps eb⟩
    have hok2 : HOk X.prog X.w (upd H' D (.lst vs)) s'.heap := fun b o eb => by
      by_cases hb : b = D
      · subst hb
        rw [upd_same] at eb; cases eb
        exact ⟨z, us, k, r, e⟩
      · rw [upd_ne hb] at eb
        refine (J.hok b o eb).stay (fun _ _ _ q => q) (fun c hc => ?_) fun c xs hc => ?_
        · rw [upd_ne (fun zz => by rw [zz, f] at hc; cases hc)]; exact hc
        · rw [upd_ne (fun zz => by rw [zz, f] at hc; cases hc)]; exact hc
    refine ⟨D, vs, H', rfl, rfl, I2.call' (ch := fp) J.os u2 hok2 J.bare ?_, f, ⟨?_, ?_, ?_, ?_, ?_, ?_, ?_⟩, q⟩
    · intro b hb
      obtain ⟨_, a2, _, a4, a5, a6⟩ := f2 b hb
      exact ⟨a4, a2, a5, a6⟩
    · obtain ⟨m, hn, _⟩ := J.loc; exact ⟨m, hn⟩
    · rw [upd_ne (Ne.symm hDC)]; exact J.free
    · have l1 : s2.heap.objs.size ≥ Nat.succ X.env.locals := I2.lt
      intro zz; have zz' : @Eq Nat C X.env.locals := zz; lia
    · have l1 : X.s₀.heap.objs.size ≤ s2.heap.objs.size := I2.sz
      show X.s₀.heap.objs.size ≤ C; lia
    · intro x c hx zz
      obtain ⟨v, o, ho, hd⟩ := I2.cell x c hx
      have l1 : s2.heap.objs.size ≥ Nat.succ c := Heap.lt_size ho
      have zz' : @Eq Nat c C := zz
      lia
    · intro p hp zz
      have l1 : s2.heap.objs.size ≥ Nat.succ p.1 := Heap.lt_size (I2.pin p hp).1
      have zz' : @Eq Nat p.1 C := zz
      lia
    · exact I2.nofs (show s2.heap.objs.size ≤ C by lia)
  have loop : ∀ tk, codeAny (model X.prog X.w) X.A (.compLoop (.ListComp elt [⟨target, iter, ifs, 0⟩] scope pos) 0 (.ref it) (.ref D) (compEnvC scope cl C X.env))
      (fun r s' => ∃ D' vs H', Value.ref D = .ref D' ∧ r = .ok .next ∧ Inv X pins σ (upd H' D' (.lst vs)) s' ∧ H' D' = none ∧ Gone X pins (upd H' D' (.lst vs)) s' C ∧ ∀ D', H' D' = none → Q (.ref D') (upd H' D' (.lst vs))) { s2 with heap := h₁, toks := tk } := by
    intro tk
    refine compLoop_go (fun n s' => ∃ i vs us k H', Inv X' [] (capσ tg.length ci σ) H' s' ∧ tn i s'.heap ∧ (∀ b ∈ fp, H' b = none) ∧ H' D = none ∧ s'.heap.get? D = some { cls := .type "list", data := .seq us.toArray k } ∧ Vals vs us ∧ vs.length ≤ sizeLine ∧ W i n vs H') ?_ m0
      ⟨0, [], [], 0, H2, I' tk, T.keep _ _ _ st2 (fun b hb o e => old b o e), fun b hb => (f2 b hb).1, fD, hD1, .nil, Nat.zero_le _, w0⟩
    rintro n s3 ⟨i, vs, us, k, H3, I3, st3, fr3, fD3, hD3, rv3, z3, w3⟩
    -- the list is pinned while the iterator turns and the element is reckoned
    let pD : List (Addr × Obj) := [(D, { cls := .type "list", data := .seq us.toArray k })]
    have pinD : ∀ {σ' : St} {H' : Hp} {s' : Shared}, Inv X' [] σ' H' s' → H' D = none → s'.heap.get? D = some { cls := .type "list", data := .seq us.toArray k } → Inv X' pD σ' H' s' := fun {σ' H' s'} J f e =>
      J.pins_of fun p hp => by
        have : p = (D, { cls := .type "list", data := .seq us.toArray k }) := by simpa [pD] using hp
        subst this
        exact ⟨e, f, hDC, hDfs, fun v z => by cases z⟩
    have statD : ∀ {H' : Hp}, (∀ b ∈ fp, H' b = none) → ∀ b ∈ fp, FpOk X' pD H' b := fun hn b hb => by
      obtain ⟨a1, a2, a3, a4, a5, _⟩ := stat hn b hb
      refine ⟨a1, a2, a3, a4, a5, fun p hp => ?_⟩
      have : p = (D, { cls := .type "list", data := .seq us.toArray k }) := by
        have hp' : p ∈ ([] : List (Addr × Obj)) ++ pD := hp
        simpa [pD] using hp'
      subst this
      exact fun z => hDfp (by rw [show D = b from z]; exact hb)
    rcases turn i n vs H3 w3 with ⟨stop, qn⟩ | ⟨go, zl, N, hN, step⟩
    · refine thn (T.done X' rfl rfl rfl hcalm i pD s3 _ H3 _ (pinD I3 fD3 hD3) (statD fr3) st3 stop) fun r s4 ⟨hr, I4⟩ => ?_
      subst hr
      have eD : s4.heap.get? D = some { cls := .type "list", data := .seq us.toArray k } := (I4.pin (D, _) (by simp [pD])).1
      exact fin I4 fD3 eD rv3 z3 qn
    · refine thn (T.item X' rfl rfl rfl hcalm i pD s3 _ H3 _ (pinD I3 fD3 hD3) (statD fr3) st3 go) fun r s4 ⟨u, hr, h4⟩ => ?_
      subst hr
      refine thn h4 fun _ s5 ⟨x, H5, I5, r5, y5, st5, fr5⟩ => ?_
      have I5' := I5.pinned (statD fr5) (T.obj _ _ st5)
      refine thn (hg C fp s2 H2 _ s5 _ H5 x u _ I5' r5 (step x H5 y5)) fun _ s6 ⟨σ6, H6, I6, q6⟩ => ?_
      refine thn (ht C fp s2 H2 _ s6 σ6 H6 _ I6 q6) fun b s7 ⟨H7, I7, q7⟩ => ?_
      -- back to the turn's start
      have again : ∀ {s8 : Shared} {H8 : Hp}, Inv X' (pD ++ pinsAt fp s5.heap) σ6 H8 s8 → Inv X' pD (capσ tg.length ci σ) H8 s8 ∧ tn (i + 1) s8.heap ∧ (∀ b ∈ fp, H8 b = none) ∧ H8 D = none ∧ s8.heap.get? D = some { cls := .type "list", data := .seq us.toArray k } := fun {s8 H8} I8 => by
        have e8 := I8.pin (D, _) (List.mem_append_right _ (List.mem_append_left _ (by simp [pD] <;> rfl)))
        refine ⟨?_, T.keep _ _ _ st5 fun b hb o e => (I8.pin (b, o) (List.mem_append_right _ (List.mem_append_right _ (mem_pinsAt hb e)))).1, fun b hb => ?_, e8.2.1, e8.1⟩
        · exact recap I8
        · obtain ⟨o, e, d⟩ := T.obj _ _ st5 b hb
          exact (I8.pin (b, o) (List.mem_append_right _ (List.mem_append_right _ (mem_pinsAt hb e)))).2.1
      cases b with
      | false =>
        obtain ⟨m', hm, w7⟩ := hN _ _ q7
        obtain ⟨J, t7, f7, d7, e7⟩ := again I7
        exact ⟨m', hm, i + 1, vs, us, k, H7, J.pins_of (fun p hp => nomatch hp), t7, f7, d7, e7, rv3, z3, w7⟩
      | true =>
        simp only [if_true] at q7 ⊢
        refine thn (he C fp s2 H2 _ s7 σ6 H7 _ I7 q7) fun y s8 ⟨yv, H8, I8, r8, q8⟩ => ?_
        obtain ⟨m', hm, w8⟩ := hN _ _ q8
        obtain ⟨J, t8, f8, d8, e8⟩ := again I8
        refine call_meets F.slot_list_append ⟨_, e8, rfl⟩ F.entry_list_append (F.args_list_append_2 _ _) (PySem.list_append D us.toArray k y (by rw [List.size_toArray, ← rv3.length]; exact z3)) ⟨e8, ?_⟩
        have q := PySem.IsL.update e8 (·.push y)
        have J0 : Inv X' [] (capσ tg.length ci σ) H8 s8 := J.pins_of (fun p hp => nomatch hp)
        refine ⟨m', hm, i + 1, vs ++ [yv], us ++ [y], _, H8, J0.turned (it := D) (t' := s8.toks) (fun b o hb hu => (Heap.get?_update_other s8.heap _ (Ne.symm hb)).trans hu) d8 hDC (.inr (by show s2.heap.objs.size ≤ D; lia)) hDcell (fun p hp => absurd (show p ∈ ([] : List (Addr × Obj)) from hp) (by simp)), ?_, f8, d8, by simpa using q, rv3.append (.cons r8 .nil), by simp; lia, w8⟩
        exact T.keep _ _ _ t8 fun b hb o hu => (Heap.get?_update_other s8.heap _ (fun z => hDfp (by rw [z]; exact hb))).trans hu
  exact codeAny_compStart_list (loop _) (T.self X.A 0 _ _ _ (T.keep _ _ _ st2 (fun b hb o e => old b o e)) (loop _))

theorem Gone.turned {pins : List (Addr × Obj)} {σ : St} {H : Hp} {s : Shared} {C : Addr} {h' : Heap} (G : Gone X pins H s C) (I : Inv X pins σ H s) (hs : Heap.SameBut C s.heap h') : Inv X pins σ H { s with heap := h' } :=
  I.turned (t' := s.toks) (fun b o hb e => hs.extBut b o hb e) G.free G.ne (.inr G.ab) G.cells G.pins

theorem pe_lcomp {elt target iter : Expr} {ifs : List Expr} {scope : Scope} {pos : Pos} {tg cp : List Str} {ci : List Nat} {wi : TI} {g : TG} {ti : TT} {te : TE}
    (S : CSc X.N X.env.scope tg cp ci scope) (hcalm : X.calm = true) (hi : PI X target iter wi)
    (hg : ∀ cl C fp s H, PG (cxC X (tg ++ cp) scope cl C fp s H) target g) (ht : ∀ cl C fp s H, PIfs (cxC X (tg ++ cp) scope cl C fp s H) ifs ti) (he : ∀ cl C fp s H, PE (cxC X (tg ++ cp) scope cl C fp s H) elt te)
    (hs : ∀ x, foldedSetIterable iter X.env x = pure x := by intro _; rfl) : PE X (.ListComp elt [⟨target, iter, ifs, 0⟩] scope pos) (tComp wi tg.length ci g ti te) := by
  intro pins s σ H Q I h
  obtain ⟨cl, hclos, h1, h2⟩ := closureFor_some (scope := scope) (env := X.env) fun x hx hf => I.ok.has x.1 (S.free x hx hf)
  rw [eval_ListComp]
  refine wpAny_comprehension_free (use := none) rfl hs hclos S.kind S.loc (thn (comp_run S hcalm hi h1 h2 (hg cl) (ht cl) (he cl) I h) fun x s1 q1 => thn q1 fun it s2 q2 => thn q2 fun acc s3 q3 => thn q3 fun cenv s4 q4 => codeAny_mono q4 fun r s' q => ?_)
  obtain ⟨D, vs, H', e1, e2, I', f, G, q⟩ := q
  subst e1 e2
  obtain ⟨m, hn⟩ := G.ns
  exact ⟨m, hn, fun h' hsb => ⟨.ref D, _, G.turned I' hsb, rfl, q D f⟩⟩

/-- name = [.. for ..] -/
theorem ps_setC {i : Nat} {y : Str} {py : Pos} {elt target iter : Expr} {ifs : List Expr} {scope : Scope} {pos spos : Pos} {tg cp : List Str} {ci : List Nat} {wi : TI} {g : TG} {ti : TT} {te : TE}
    (hN : X.N.Nodup) (hi' : X.N[i]? = some y) (hy : Loc X.env.scope y)
    (S : CSc X.N X.env.scope tg cp ci scope) (hcalm : X.calm = true) (hi : PI X target iter wi)
    (hg : ∀ cl C fp s H, PG (cxC X (tg ++ cp) scope cl C fp s H) target g) (ht : ∀ cl C fp s H, PIfs (cxC X (tg ++ cp) scope cl C fp s H) ifs ti) (he : ∀ cl C fp s H, PE (cxC X (tg ++ cp) scope cl C fp s H) elt te)
    (hsw : swapsWith (.ListComp elt [⟨target, iter, ifs, 0⟩] scope pos) (some (.Name y py)) spos.line X.env = pure true := by rfl)
    (hs : ∀ x, foldedSetIterable iter X.env x = pure x := by intro _; rfl) (hf : X.fn y = true ∨ X.env.scope.names.lookup y = some .local := by first | exact .inl rfl | exact .inr rfl | assumption) :
    PS X (.Assign [.Name y py] (.ListComp elt [⟨target, iter, ifs, 0⟩] scope pos) spos) (tAsg (tComp wi tg.length ci g ti te) (gName i)) := by
  intro pins s σ H D I h
  obtain ⟨cl, hclos, h1, h2⟩ := closureFor_some (scope := scope) (env := X.env) fun x hx hf => I.ok.has x.1 (S.free x hx hf)
  rw [exec_Assign_Name_used _ _ _ _ hsw]
  refine wpAny_bind (wpAny_standAt (wpAny_bind ?_))
  show wpAny _ X.A (do let _ ← comprehension (.ListComp elt [⟨target, iter, ifs, 0⟩] scope pos) scope X.env _ (newList []) false (eval iter X.env) (some (assign (.Name y py) X.env))) _ _ s
  refine wpAny_bind (wpAny_mono (wpAny_comprehension_free (use := some (assign (.Name y py) X.env)) (Q := fun _ s' => SP X pins D .next s') rfl hs hclos S.kind S.loc
    (thn (comp_run S hcalm hi h1 h2 (hg cl) (ht cl) (he cl) I h) fun x s1 q1 => thn q1 fun it s2 q2 => thn q2 fun acc s3 q3 => thn q3 fun cenv s4 q4 => codeAny_mono q4 fun r s' q => ?_)) (fun _ s' hq => wpAny_pure (wpAny_pure hq)) fun _ _ e => e)
  obtain ⟨D', vs, H', e1, e2, I', f, G, q⟩ := q
  subst e1 e2
  show wpAny _ X.A (assign (.Name y py) X.env (.ref D')) _ _ _
  -- the block's names stay through the store
  obtain ⟨m, o, es, ep, ho, hd, hk⟩ := G.ns
  have pin : Inv X ((cenv.locals, o) :: pins) σ (upd H' D' (.lst vs)) s' := I'.pins_of fun p hp => by
    rcases List.mem_cons.mp hp with z | z
    · subst z
      exact ⟨ho, G.free, G.ne, G.nofs, fun v z => by rw [hd] at z; cases z⟩
    · exact I'.pin p (List.mem_append_right _ z)
  refine wpAny_assign_Name (store_ok (v := V.ref D') pin hN hi' hy (show RelV (.ref D') (.ref D') from rfl) (fun s2 I2 => ?_) hf)
  have I3 : Inv X pins (σ.set i (some (.ref D'))) (upd H' D' (.lst vs)) s2 := I2.pins_of fun p hp => I2.pin p (List.mem_append_right _ (List.mem_cons_of_mem _ hp))
  have e2 := I2.pin (cenv.locals, o) (List.mem_append_right _ List.mem_cons_self)
  have G2 : Gone X pins (upd H' D' (.lst vs)) s2 cenv.locals := ⟨⟨m, o, es, ep, e2.1, hd, hk⟩, G.free, G.ne, G.ab, G.cells, G.pins, G.nofs⟩
  exact ⟨m, ⟨o, es, ep, e2.1, hd, hk⟩, fun h' hsb => ⟨_, _, G2.turned I3 hsb, q D' f⟩⟩
end
end L2

end
section
-- text: ExtB
set_option Elab.async false
set_option linter.all false
set_option maxRecDepth 100000
set_option maxHeartbeats 4000000
namespace L2
open PySem PySem.Spec PyProof.Rows

/-! ### iterators within iterators -/
/-- an iterator at a over what stands in dep: at k it hands out val k -/
structure SubIt (P : Program) (w : World) (A : Around) (a : Addr) (dep : List Addr) (ok : Nat → Heap → Prop) (val : Nat → Option Value) : Prop where
  mem : a ∈ dep
  obj : ∀ k h, ok k h → ∃ o, h.get? a = some o ∧ (∀ v, o.data ≠ .cell v) ∧ o.cls ≠ .type "zip" ∧ o.cls ≠ .type "enumerate" ∧ o.cls ≠ .type "tuple"
  keep : ∀ k h h', ok k h → (∀ b ∈ dep, ∀ o, h.get? b = some o → h'.get? b = some o) → ok k h'
  item : ∀ k x (s : Shared) (Q : Value → Shared → Prop) (E : Value → Shared → Prop), ok k s.heap → val k = some x → (∀ h', ok (k + 1) h' → Heap.SameBut a s.heap h' → Q x { s with heap := h' }) →
    wpAny (model P w) A (Builtin.SmallTypes.nextOf (.ref a)) Q E s
  stop : ∀ k (s : Shared) (Q : Value → Shared → Prop) (E : Value → Shared → Prop), ok k s.heap → val k = none →
    (∀ h' e, Heap.ExtBut a s.heap h' → (∃ o, h'.get? e = some o ∧ o.cls = .type "StopIteration") → E (.ref e) { s with heap := h' }) → wpAny (model P w) A (Builtin.SmallTypes.nextOf (.ref a)) Q E s

section
variable {P : Program} {w : World} {A : Around}
theorem subList {a l : Addr} {xs : Array Value} (hh : A.handled = none) (ne : l ≠ a) : SubIt P w A a [a, l] (fun k h => h.IsListIter a l k ∧ h.IsList l xs) (fun k => xs[k]?) where
  mem := List.mem_cons_self
  obj := fun k h z => by
    obtain ⟨⟨o, e, c, d⟩, _⟩ := z
    exact ⟨o, e, fun v q => (by rw [d] at q; cases q), (by rw [c]; decide), (by rw [c]; decide), (by rw [c]; decide)⟩
  keep := fun k h h' z q => ⟨z.1.at fun o e => q a (by simp) o e, z.2.at fun o e => q l (by simp) o e⟩
  item := fun k x s Q E z e q => wpAny_nextOf_list_item z.1 z.2 e fun h' h1 h2 => q h' ⟨h1, z.2.extBut h2.extBut ne⟩ h2
  stop := fun k s Q E z e q => wpAny_nextOf_list_end hh z.1 z.2 e q

theorem tupIter_at {h h' : Heap} {a l : Addr} {k : Nat} (x : h.IsTupleIter a l k) (e : ∀ o, h.get? a = some o → h'.get? a = some o) : h'.IsTupleIter a l k := let ⟨o, ho, r⟩ := x; ⟨o, e _ ho, r⟩
theorem tup_at {h h' : Heap} {a : Addr} {xs : Array Value} (x : h.IsTuple a xs) (e : ∀ o, h.get? a = some o → h'.get? a = some o) : h'.IsTuple a xs := let ⟨o, ho, r⟩ := x; ⟨o, e _ ho, r⟩

theorem subTup {a l : Addr} {xs : Array Value} (hh : A.handled = none) (ne : l ≠ a) : SubIt P w A a [a, l] (fun k h => h.IsTupleIter a l k ∧ h.IsTuple l xs) (fun k => xs[k]?) where
  mem := List.mem_cons_self
  obj := fun k h z => by
    obtain ⟨⟨o, e, c, d⟩, _⟩ := z
    exact ⟨o, e, fun v q => (by rw [d] at q; cases q), (by rw [c]; decide), (by rw [c]; decide), (by rw [c]; decide)⟩
  keep := fun k h h' z q => ⟨tupIter_at z.1 fun o e => q a (by simp) o e, tup_at z.2 fun o e => q l (by simp) o e⟩
  item := fun k x s Q E z e q => by
    obtain ⟨o, ho, hc, hd⟩ := id z.1
    obtain ⟨ol, hol, _, nl, hdl⟩ := id z.2
    unfold Builtin.SmallTypes.nextOf
    refine wpAny_bind (wpAny_callSpecial?_slot (name := Str.ofString "__next__") z.1.typeIs F.slot_tuple_iterator_next (wpAny_call_entry F.slot_tuple_iterator_next z.1.typeIs F.entry_tuple_iterator_next ?_ (F.args_tuple_iterator_next_1 _)))
    show wpAny _ _ (field (.ref a) 0 >>= _) _ _ s; refine wpAny_bind (wpAny_field ho hd (x := .ref l) rfl ?_)
    show wpAny _ _ (if (Value.ref l == Value.none) = true then _ else _) _ _ s; rw [if_neg (show ¬ ((Value.ref l == Value.none) = true) from Bool.false_ne_true)]
    show wpAny _ _ (field (.ref a) 1 >>= _) _ _ s; refine wpAny_bind (wpAny_field ho hd (x := .int k 0) rfl ?_)
    show wpAny _ _ (seqItems? (.ref l) >>= _) _ _ s; refine wpAny_bind (wpAny_seqItems hol hdl ?_)
    simp only [Int.toNat_natCast, e]
    refine wpAny_bind (wpAny_setField ho hd (by simp) (wpAny_pure ⟨x, rfl, wpAny_pure (q _ ⟨?_, z.2.extBut (Heap.SameBut.update ..).extBut ne⟩ (Heap.SameBut.update ..))⟩))
    exact ⟨_, Heap.get?_update_self _ ho (Obj.isFreed_of_fields (Obj.data_mapFields hd _)), (Obj.cls_mapFields ..).trans hc, by rw [Obj.data_mapFields hd]; simp [rawInt]⟩
  stop := fun k s Q E z e q => by
    obtain ⟨o, ho, hc, hd⟩ := id z.1
    obtain ⟨ol, hol, _, nl, hdl⟩ := id z.2
    unfold Builtin.SmallTypes.nextOf
    refine wpAny_bind (wpAny_callSpecial?_slot (name := Str.ofString "__next__") z.1.typeIs F.slot_tuple_iterator_next (wpAny_call_entry F.slot_tuple_iterator_next z.1.typeIs F.entry_tuple_iterator_next ?_ (F.args_tuple_iterator_next_1 _)))
    show wpAny _ _ (field (.ref a) 0 >>= _) _ _ s; refine wpAny_bind (wpAny_field ho hd (x := .ref l) rfl ?_)
    show wpAny _ _ (if (Value.ref l == Value.none) = true then _ else _) _ _ s; rw [if_neg (show ¬ ((Value.ref l == Value.none) = true) from Bool.false_ne_true)]
    show wpAny _ _ (field (.ref a) 1 >>= _) _ _ s; refine wpAny_bind (wpAny_field ho hd (x := .int k 0) rfl ?_)
    show wpAny _ _ (seqItems? (.ref l) >>= _) _ _ s; refine wpAny_bind (wpAny_seqItems hol hdl ?_)
    simp only [Int.toNat_natCast, e]
    refine wpAny_bind (wpAny_rule (wpAny_bind (wpAny_setField ho hd (by simp) ?_)))
    show wpAny _ _ (newExc (.type "StopIteration") [] >>= _) _ _ _; refine wpAny_bind ?_
    simp only [newExc, newTuple]
    refine wpAny_bind (wpAny_newObj_type ?_ (by size_fits))
    refine wpAny_bind (m := firstArgMember _ _) (wpAny_of_eq (a := Value.none) (by first | rfl | (simp only [firstArgMember]; rfl)) (wpAny_newObj_type ?_ (by size_fits)))
    simp only [raiseNew]
    refine wpAny_bind (wpAny_handled ?_)
    first | rw [show A.in1.handled = none from hh] | rw [hh]
    exact wpAny_bind (wpAny_pure (wpAny_throw (q _ _ (((Heap.SameBut.update ..).extBut.push _).push _) ⟨_, Heap.get?_push_size _ rfl, rfl⟩)))
end

/-- a zip of two -/
structure ZAp (z TI TO : Addr) (d1 d2 : List Addr) (i1 i2 : Addr) : Prop where
  a1 : TI ≠ z
  a2 : TO ≠ z
  a3 : TI ≠ TO
  b1 : z ∉ d1
  b2 : z ∉ d2
  b3 : TO ∉ d1
  b4 : TO ∉ d2
  b5 : TI ≠ i1
  b6 : TI ≠ i2
  c1 : i1 ∉ d2
  c2 : i2 ∉ d1

section
variable {P : Program} {w : World} {A : Around} {s : Shared} {z TI TO i1 i2 : Addr} {d1 d2 : List Addr} {ok1 ok2 : Nat → Heap → Prop} {v1 v2 : Nat → Option Value}


end
end L2

end
section
-- text: ExtC
set_option Elab.async false
set_option linter.all false
set_option maxRecDepth 100000
set_option maxHeartbeats 4000000
namespace L2
open PySem PySem.Spec PyProof.Rows

/-! ### a list or a tuple (true: a tuple) -/
noncomputable def SqB (K : PySem.W.Frag) : Bool → Hp → Addr → List V → Prop
  | true => fun H a xs => SqT K H a xs
  | false => fun H a xs => SqL K H a xs
noncomputable def isSeqB : Bool → Heap → Addr → Array Value → Prop
  | true => fun h a xs => h.IsTuple a xs
  | false => fun h a xs => h.IsList a xs
noncomputable def isItB : Bool → Heap → Addr → Addr → Nat → Prop
  | true => fun h a l k => h.IsTupleIter a l k
  | false => fun h a l k => h.IsListIter a l k
noncomputable def itObj (b : Bool) (l : Addr) : Obj := { cls := .type (if b then "tuple_iterator" else "list_iterator"), data := .fields #[.ref l, .int 0 0] }
theorem isItB_new (b : Bool) (h : Heap) (l : Addr) (a : Addr) (e : h.get? a = some (itObj b l)) : isItB b h a l 0 := by cases b <;> exact ⟨_, e, rfl, rfl⟩
theorem isItB_at {b : Bool} {h h' : Heap} {a l : Addr} {k : Nat} (x : isItB b h a l k) (e : ∀ o, h.get? a = some o → h'.get? a = some o) : isItB b h' a l k := by
  cases b
  · exact Heap.IsListIter.at x e
  · exact tupIter_at x e
theorem subB {P : Program} {w : World} {A : Around} (b : Bool) {a l : Addr} {xs : Array Value} (hh : A.handled = none) (ne : l ≠ a) : SubIt P w A a [a, l] (fun k h => isItB b h a l k ∧ isSeqB b h l xs) (fun k => xs[k]?) := by
  cases b
  · exact subList hh ne
  · exact subTup hh ne
theorem isItB_obj {b : Bool} {h : Heap} {a l : Addr} {k : Nat} (x : isItB b h a l k) : ∃ o, h.get? a = some o ∧ (∀ v, o.data ≠ .cell v) ∧ (o.cls = .type "tuple_iterator" ∨ o.cls = .type "list_iterator") := by
  cases b <;> obtain ⟨o, e, c, d⟩ := x
  · exact ⟨o, e, fun v q => (by rw [d] at q; cases q), .inr c⟩
  · exact ⟨o, e, fun v q => (by rw [d] at q; cases q), .inl c⟩
theorem pyIter_B {P : Program} {w : World} {A : Around} {E : Value → Shared → Prop} {s : Shared} {b : Bool} {t : Addr} {items : Array Value} {Q : Value → Shared → Prop} (ht : isSeqB b s.heap t items)
    (hQ : Q (.ref s.heap.objs.size) { s with heap := s.heap.push (itObj b t) }) : wpAny (model P w) A (pyIter (.ref t)) Q E s := by
  cases b
  · exact wpAny_pyIter_list ht hQ
  · exact wpAny_pyIter_tuple ht hQ

section
variable {X : Cx} {pins : List (Addr × Obj)} {σ : St} {H : Hp} {s : Shared}
theorem Inv.seqB {b : Bool} {a : Addr} {xs : List V} (I : Inv X pins σ H s) (h : SqB X.K b H a xs) : ∃ its : List Value, Vals xs its ∧ isSeqB b s.heap a its.toArray ∧ xs.length ≤ sizeLine := by
  cases b
  · obtain ⟨its, r, p, z⟩ := I.list h; exact ⟨its, r, p.isList, z⟩
  · obtain ⟨its, r, p, z⟩ := I.tuple h; exact ⟨its, r, p, z⟩
theorem Inv.seqB_inj {b : Bool} {a : Addr} {xs ys : List V} (I : Inv X pins σ H s) (h : SqB X.K b H a xs) (h' : SqB X.K b H a ys) : xs = ys := by
  cases b
  · exact I.list_inj h h'
  · exact I.tuple_inj h h'

/-- the records at fp have turned, and a tuple has been laid -/
theorem Inv.turnedT {fp : List Addr} {h' : Heap} {t' : Nat} {T : Addr} {xs : List V} {its : Array Value} (I : Inv X pins σ H s) (hf : ∀ b ∈ fp, FpOk X pins H b) (k : ∀ b o, b ∉ fp → s.heap.get? b = some o → h'.get? b = some o)
    (hp : s.heap.objs.size ≤ T) (z : xs.length ≤ sizeLine) (r : Vals xs its.toList) (new : h'.IsTuple T its) : Inv X pins σ (upd H T (.tup xs)) { s with heap := h', toks := t' } := by
  have fT : H T = none := I.hok.fresh hp
  have nT : ∀ b o, s.heap.get? b = some o → b ≠ T := fun b o e q => by
    have l1 : s.heap.objs.size ≥ Nat.succ b := Heap.lt_size e
    have l2 : @Eq Nat b T := q
    lia
  have nfp : ∀ b u, H b = some u → b ∉ fp := fun b u e q => by rw [(hf b q).1] at e; cases e
  refine I.step (g' := s.gens) (d' := s.drawn) (ch := fp) (fun b hb => ⟨(hf b hb).2.2.2.1, (hf b hb).2.1, (hf b hb).2.2.2.2.1, (hf b hb).2.2.2.2.2⟩) (fun b o _ _ hc e _ => k b o hc e) (fun b o _ _ hc e _ => ⟨o.slots, k b o hc e⟩)
    (fun b o _ e n => by rw [upd_ne (nT b o e)]; exact n) (fun b o hc e => ⟨o, k b o hc e⟩) (fun b ys e => by rw [upd_ne (ne_of_none e fT)]; exact e) (fun b o u e => by rw [upd_ne (ne_of_none e fT)]; exact e)
    (fun b ps e => ⟨#[], by rw [upd_ne (ne_of_none e fT), e]; simp⟩) (fun m hm => ?_) (fun b u e => ?_) I.bare
  · obtain ⟨o, es, ep, ho, q⟩ := hm
    exact ⟨o, es, ep, k _ o (fun hb => (hf _ hb).2.1 rfl) ho, q⟩
  · by_cases hb : b = T
    · subst hb
      rw [upd_same] at e; cases e
      have q : IsTup h' b its := new
      exact ⟨z, its.toList, r, by simpa using q⟩
    · rw [upd_ne hb] at e
      refine (I.hok b u e).stay (fun c v hc q => k c v ?_ q) (fun c q => ?_) fun c ys q => ?_
      · rcases hc with hc | hc
        · rw [hc]; exact nfp b u e
        · exact nfp c _ hc
      · rw [upd_ne (ne_of_none q fT)]; exact q
      · rw [upd_ne (ne_of_none q fT)]; exact q
/-- the records at fp have turned -/
theorem Inv.turnedL {fp : List Addr} {h' : Heap} {t' : Nat} (I : Inv X pins σ H s) (hf : ∀ b ∈ fp, FpOk X pins H b) (k : ∀ b o, b ∉ fp → s.heap.get? b = some o → h'.get? b = some o) : Inv X pins σ H { s with heap := h', toks := t' } := by
  have nfp : ∀ b u, H b = some u → b ∉ fp := fun b u e q => by rw [(hf b q).1] at e; cases e
  refine I.step (g' := s.gens) (d' := s.drawn) (ch := fp) (fun b hb => ⟨(hf b hb).2.2.2.1, (hf b hb).2.1, (hf b hb).2.2.2.2.1, (hf b hb).2.2.2.2.2⟩) (fun b o _ _ hc e _ => k b o hc e) (fun b o _ _ hc e _ => ⟨o.slots, k b o hc e⟩)
    (fun b o _ e n => n) (fun b o hc e => ⟨o, k b o hc e⟩) (fun b ys e => e) (fun b o u e => e) (fun b ps e => ⟨#[], by rw [e]; simp⟩) (fun m hm => ?_) (fun b u e => ?_) I.bare
  · obtain ⟨o, es, ep, ho, q⟩ := hm
    exact ⟨o, es, ep, k _ o (fun hb => (hf _ hb).2.1 rfl) ho, q⟩
  · refine (I.hok b u e).stay (fun c v hc q => k c v ?_ q) (fun c q => q) fun c ys q => q
    rcases hc with hc | hc
    · rw [hc]; exact nfp b u e
    · exact nfp c _ hc
end

/-! ### zip of two lists or tuples, walked by a tuple of names -/
/-- the state of a zip -/
structure ZSt (b1 b2 : Bool) (z TI TO i1 i2 l1 l2 : Addr) (k : Nat) (h : Heap) : Prop where
  zip : IsZip h z TI TO .none
  ti : IsPair h TI (.ref i1) (.ref i2)
  to : ∃ a b, IsPair h TO a b
  it1 : isItB b1 h i1 l1 k
  it2 : isItB b2 h i2 l2 k

theorem cls_ne {h : Heap} {a b : Addr} {o u : Obj} {x y : String} (e : h.get? a = some o) (e' : h.get? b = some u) (ca : o.cls = .type x) (cb : u.cls = .type y) (n : x ≠ y := by decide) : a ≠ b := fun q => by
  subst q; rw [e] at e'; cases e'; rw [ca] at cb; injection cb with cb; exact n cb
theorem Inv.sq_ne {X : Cx} {pins : List (Addr × Obj)} {σ : St} {H : Hp} {s : Shared} {b : Bool} {l c : Addr} {xs : List V} (I : Inv X pins σ H s) (h : SqB X.K b H l xs) (f : FpOk X pins H c) : l ≠ c := by
  have key : (∃ u, H l = some u) ∨ ∃ o, X.K.lookup l = some o := by
    cases b
    · rcases h with (h | ⟨o, h⟩) | ⟨o, _, _, h, _⟩
      · exact .inl ⟨_, h⟩
      · exact .inl ⟨_, h⟩
      · exact .inr ⟨o, h⟩
    · rcases h with (h | ⟨o, h⟩) | ⟨o, _, _, h, _⟩
      · exact .inl ⟨_, h⟩
      · exact .inl ⟨_, h⟩
      · exact .inr ⟨o, h⟩
  intro q
  subst q
  rcases key with ⟨u, e⟩ | ⟨o, e⟩
  · rw [f.1] at e; cases e
  · have eb := I.ok.mod.kin l o e
    rcases f.2.2.2.1 with z | z
    · exact I.ok.noex l o eb z
    · have l1 : X.base.objs.size ≥ Nat.succ l := Heap.lt_size eb
      have l2 : X.base.objs.size ≤ X.s₀.heap.objs.size := I.ok.bsz
      have l3 : X.s₀.heap.objs.size ≤ l := z
      lia


/-! making a zip -/
end L2

end
section
-- text: ExtD
set_option Elab.async false
set_option linter.all false
set_option maxRecDepth 100000
set_option maxHeartbeats 4000000
namespace L2
open PySem PySem.Spec PyProof.Rows

section
variable {X : Cx}
end
end L2

end
section
-- text: ExtE
set_option Elab.async false
set_option linter.all false
set_option maxRecDepth 100000
set_option maxHeartbeats 4000000
namespace L2
open PySem PySem.Spec PyProof.Rows

/-! ### enumerate of a list or a tuple, walked by a tuple of names -/
noncomputable def Ite (K : PySem.W.Frag) (b : Bool) (l : Addr) : It :=
  ⟨fun i H => ∃ xs x, SqB K b H l xs ∧ xs[i]? = some x,
   fun i H v H' => ∃ T x, v = .ref T ∧ H T = none ∧ H' = upd H T (.tup [.int i, x]) ∧ (∀ xs, SqB K b H l xs → xs[i]? = some x),
   fun i H => ∃ xs, SqB K b H l xs ∧ xs.length ≤ i⟩
theorem drawsB {P : Program} {w : World} {A : Around} (b : Bool) {a l : Addr} {xs : Array Value} (hh : A.handled = none) (ne : l ≠ a) : Draws P w A a [a, l] xs.size (fun i v => xs[i]? = some v) (fun k h => isItB b h a l k ∧ isSeqB b h l xs) where
  live := fun k h z => let ⟨o, e, _⟩ := (subB (P := P) (w := w) b hh ne).obj k h z; ⟨o, e⟩
  frame := fun k h h' z q => (subB (P := P) (w := w) b hh ne).keep k h h' z q
  item := fun k s Q E hk z q => by
    have hx : xs[k]? = some xs[k] := Array.getElem?_eq_getElem hk
    exact (subB (P := P) (w := w) b hh ne).item k xs[k] s Q E z hx fun h' a1 a2 => q xs[k] h' s.toks hx a1 a2
  done := fun s Q E z q => (subB (P := P) (w := w) b hh ne).stop xs.size s Q E z (Array.getElem?_eq_none (Nat.le_refl _)) q

structure ESt (b : Bool) (e it l : Addr) (k : Nat) (h : Heap) : Prop where
  en : ∃ old, IsEnum h e it k old
  it : isItB b h it l k

theorem turn_enum {P : Program} {w : World} {K : PySem.W.Frag} {elts : List Expr} {kk : Nat} {tpos : Pos} (b : Bool) (e it l : Addr) :
    Turn P w K (.Tuple elts kk tpos) (Ite K b l) [e, it] e (ESt b e it l) where
  mem := List.mem_cons_self
  obj := fun k h S c hc => by
    obtain ⟨old, he⟩ := S.en
    obtain ⟨o1, e1, d1, _⟩ := isItB_obj S.it
    simp only [List.mem_cons, List.not_mem_nil, or_false] at hc
    rcases hc with rfl | rfl
    · exact ⟨_, he, fun v q => by cases q⟩
    · exact ⟨o1, e1, d1⟩
  keep := fun k h h' S q => by
    obtain ⟨old, he⟩ := S.en
    exact ⟨⟨old, q e (by simp) _ he⟩, isItB_at S.it fun o x => q it (by simp) o x⟩
  item := by
    intro X hP hw hK hc i pins s σ H E I hf S hg
    subst hP hw hK
    obtain ⟨xs, x, h1, ex⟩ := hg
    obtain ⟨us, r1, p1, z1⟩ := I.seqB h1
    obtain ⟨u, eu, ru⟩ := r1.get ex
    obtain ⟨old, he⟩ := S.en
    obtain ⟨o1, e1, _, c1⟩ := isItB_obj S.it
    have hh : X.A.handled = none := I.ok.hd hc
    have nl : ∀ c ∈ [e, it], l ≠ c := fun c hc => I.sq_ne h1 (hf c hc)
    have ei : e ≠ it := by rcases c1 with c | c <;> exact cls_ne he e1 rfl c
    have ilt : i < us.toArray.size := by
      have := (List.getElem?_eq_some_iff.mp eu).1
      simpa using this
    refine wpAny_pyNext_enum_itemD (drawsB b (A := X.A.in1) hh (nl it (by simp))) he ⟨S.it, p1⟩ ilt ei (by simp only [List.mem_cons, List.not_mem_nil, or_false, not_or]; exact ⟨ei, Ne.symm (nl e (by simp))⟩) fun y g tk hy a1 a2 a3 a4 a5 => ?_
    have ey : y = u := by
      have q1 : us[i]? = some y := by simpa using hy
      rw [eu] at q1; cases q1; rfl
    subst ey
    refine ⟨_, rfl, wpAny_letOwnedTupleGo_enum (s := { s with heap := g, toks := tk + 1 }) a1 fun g' he' t => ?_⟩
    have lt : ∀ {c : Addr} {o : Obj}, s.heap.get? c = some o → s.heap.objs.size ≠ c := fun q => Nat.ne_of_gt (Heap.lt_size q)
    have k' : ∀ c o, c ∉ [e, it] → s.heap.get? c = some o → g'.get? c = some o := fun c o hc q => by
      simp only [List.mem_cons, List.not_mem_nil, or_false, not_or] at hc
      exact t.extBut c o hc.1 (a5 c o hc.1 hc.2 q)
    have hS' : ESt b e it l (i + 1) g' := ⟨⟨_, by simpa using he'⟩, isItB_at a2.1 fun o q => t.extBut _ _ (Ne.symm ei) q⟩
    have fT : H s.heap.objs.size = none := I.hok.fresh (Nat.le_refl _)
    have J : Inv X pins σ (upd H s.heap.objs.size (.tup [.int i, x])) { s with heap := g', toks := tk + 1 } :=
      I.turnedT (t' := tk + 1) (fp := [e, it]) hf k' (Nat.le_refl _) (by show 2 ≤ sizeLine; decide) (its := #[.int i tk, y]) (.cons ⟨_, rfl⟩ (.cons ru .nil)) ⟨_, t.extBut _ _ (lt he) a3, rfl, _, rfl⟩
    refine ⟨.ref s.heap.objs.size, upd H s.heap.objs.size (.tup [.int i, x]), J, rfl, ⟨_, x, rfl, fT, rfl, fun xs' hx' => by rw [I.seqB_inj hx' h1]; exact ex⟩, hS', fun c hc => ?_⟩
    have fobj : ∃ o, s.heap.get? c = some o := by
      simp only [List.mem_cons, List.not_mem_nil, or_false] at hc
      rcases hc with rfl | rfl
      · exact ⟨_, he⟩
      · exact ⟨_, e1⟩
    obtain ⟨o, eo⟩ := fobj
    rw [upd_ne (Ne.symm (lt eo))]
    exact (hf c hc).1
  done := by
    intro X hP hw hK hc i pins s σ H E I hf S hg
    subst hP hw hK
    obtain ⟨xs, h1, le⟩ := hg
    obtain ⟨us, r1, p1, z1⟩ := I.seqB h1
    obtain ⟨old, he⟩ := S.en
    have hh : X.A.handled = none := I.ok.hd hc
    have nl : ∀ c ∈ [e, it], l ≠ c := fun c hc => I.sq_ne h1 (hf c hc)
    have D := subB (P := X.prog) (w := X.w) b (A := X.A.in1) (xs := us.toArray) hh (nl it (by simp))
    have hT : s.TypeIs (.ref e) "enumerate" := ⟨_, he, rfl⟩
    unfold pyNext
    refine wpAny_bind (wpAny_attempt (wpAny_callSpecial?_slot (name := Str.ofString "__next__") hT F.slot_enumerate_next (wpAny_call_entry F.slot_enumerate_next hT F.entry_enumerate_next ?_ (F.args_enumerate_next_1 _))))
    show wpAny _ _ (field (.ref e) 2 >>= _) _ _ s; refine wpAny_bind (wpAny_field he rfl (x := .ref it) rfl ?_)
    refine wpAny_bind (D.stop i _ _ _ ⟨S.it, p1⟩ (by have := r1.length; simp; lia) fun g x t ⟨o, ho, hce⟩ => ?_)
    refine wpAny_bind (wpAny_isInstance (T := "StopIteration") (b := true) ⟨o, ho, hce⟩ isSubtype_stop (wpAny_pure ⟨rfl, ?_⟩))
    refine I.turnedL (t' := s.toks) (fp := [e, it]) hf fun c o hc q => ?_
    simp only [List.mem_cons, List.not_mem_nil, or_false, not_or] at hc
    exact t c o hc.2 q
  self := fun A i s Q E S h => let ⟨_, he⟩ := S.en; wpAny_pyIter_enum he h

theorem meets_enumB (b : Bool) (l : Addr) (xs : Array Value) (n : Nat) (dct : Option Addr) (sl : Array (Option Value)) :
    Meets (Builtin.«enumerate.__new__» ⟨[.type "enumerate", .ref l], []⟩) (fun _ R s => s.heap.get? l = some { cls := .type (if b then "tuple" else "list"), dict := dct, data := .seq xs n, slots := sl } ∧ R (.ok (.ret (.ref (s.heap.push (itObj b l)).objs.size))) { s with heap := (s.heap.push (itObj b l)).push { cls := .type "enumerate", data := .fields #[.none, .bool false, .ref s.heap.objs.size, rawInt 0, .none, .none] } }) :=
  .of_wp fun prog w A R s h => by
    obtain ⟨hp, g, d, tk, os⟩ := s; obtain ⟨hl, h⟩ := h
    have hsub := sub_enumerate
    have hL : isSeqB b (Shared.heap ⟨hp, g, d, tk, os⟩) l xs := by cases b <;> exact ⟨_, hl, rfl, n, rfl⟩
    wp_walk using wpAny_loadPart' hl; (refine wpAny_stack_any fun st => wpAny_pure ?_); split
    · rename_i c _ _ _ _ _; cases (c == Value.type "enumerate") <;> (wp_walk using wpAny_loadPart' hl, pyIter_B hL; exact ⟨_, rfl, h⟩)
    · wp_walk using wpAny_loadPart' hl, pyIter_B hL; exact ⟨_, rfl, h⟩
theorem isSeqB_data {b : Bool} {h : Heap} {l : Addr} {xs : Array Value} (x : isSeqB b h l xs) : ∃ n dct sl, h.get? l = some { cls := .type (if b then "tuple" else "list"), dict := dct, data := .seq xs n, slots := sl } := by
  cases b <;> obtain ⟨⟨c, dct, dt, sl⟩, e, hc, n, hd⟩ := x
  · replace hc : c = .type "list" := hc
    replace hd : dt = .seq xs n := hd
    subst hc hd; exact ⟨n, dct, sl, e⟩
  · replace hc : c = .type "tuple" := hc
    replace hd : dt = .seq xs n := hd
    subst hc hd; exact ⟨n, dct, sl, e⟩

section
variable {X : Cx}
noncomputable def iEnum (K : PySem.W.Frag) (ta : TA) : TI := fun σ H R => ta σ H fun vs H1 => ∃ b a, vs = [.ref a] ∧ (∃ xs, SqB K b H1 a xs) ∧ R (Ite K b a) H1
theorem enum_it {pins : List (Addr × Obj)} {σ : St} {H : Hp} {s : Shared} {R : It → Hp → Prop} {elts : List Expr} {kk : Nat} {tpos : Pos} {b : Bool} {l : Addr} {xs : List V} (I : Inv X pins σ H s) (h1 : SqB X.K b H l xs) (q : R (Ite X.K b l) H) :
    wpAny (model X.prog X.w) X.A (call (.type "enumerate") [.ref l]) (fun v s1 => wpAny (model X.prog X.w) X.A (pyIter v) (PIE X pins σ (.Tuple elts kk tpos) R) X.xe s1) X.xe s := by
  obtain ⟨us, r1, p1, z1⟩ := I.seqB h1
  obtain ⟨m, dct, sl, hl⟩ := isSeqB_data p1
  refine callType_new F.called_enumerate (by decide) (F.typeCall_enumerate_1 _) (F.newCall_enumerate_1 _) (fun obj => F.args_object_init_2 obj _) F.entry_enumerate_new (meets_enumB b l us.toArray m dct sl) ⟨hl, ?_⟩
  generalize hn : s.heap.objs.size = n
  have s1 : (s.heap.push (itObj b l)).objs.size = n + 1 := by rw [Heap.size_push, hn]
  generalize hG : (s.heap.push (itObj b l)).push { cls := .type "enumerate", data := .fields #[.none, .bool false, .ref n, rawInt 0, .none, .none] } = G
  have old : ∀ c o, s.heap.get? c = some o → G.get? c = some o := fun c o e => hG ▸ Heap.get?_push_of_some _ (Heap.get?_push_of_some _ e)
  have ge : IsEnum G (n + 1) n 0 .none := by
    have e : G.get? (s.heap.push (itObj b l)).objs.size = some { cls := .type "enumerate", data := .fields #[.none, .bool false, .ref n, rawInt 0, .none, .none] } := hG ▸ Heap.get?_push_size _ rfl
    rw [s1] at e; exact e
  have gi : G.get? n = some (itObj b l) := by
    have e : G.get? s.heap.objs.size = some (itObj b l) := hG ▸ Heap.get?_push_of_some _ (Heap.get?_push_size _ rfl)
    rw [hn] at e; exact e
  rw [s1]
  refine ⟨⟨_, ge, rfl⟩, wpAny_pyIter_enum ge ?_⟩
  have I1 : Inv X pins σ H { s with heap := G } := I.kept (t' := s.toks) old
  refine ⟨n + 1, [n + 1, n], _, _, H, rfl, I1, turn_enum b (n + 1) n l, ⟨⟨_, ge⟩, isItB_new _ _ _ _ gi⟩, fun c hc => ?_, q⟩
  have le : s.heap.objs.size ≤ c := by
    rw [hn]
    simp only [List.mem_cons, List.not_mem_nil, or_false] at hc
    show @LE.le Nat _ n c
    rcases hc with e | e <;> (have e' : @Eq Nat c _ := e; lia)
  exact I.fpOk le (I.hok.fresh le)
theorem pi_enum {a : Expr} {ta : TA} {p pos : Pos} {elts : List Expr} {kk : Nat} {tpos : Pos} (hg : Gl X "enumerate") (hm : X.mg "enumerate" = none) (ha : PA X [a] ta) (hs : starEach [a] X.env = [(false, eval a X.env)] := by rfl) :
    PI X (.Tuple elts kk tpos) (.Call (.Name "enumerate" p) [a] [] pos) (iEnum X.K ta) := by
  intro pins s σ H R I h
  refine Call_ (ld_blt I hg hm (u := .type "enumerate") boot_enumerate (PyProof.Rows.callWith_type1 (thn (ha pos pins s σ H _ I h) fun us s1 ⟨vs, H1, I1, r1, q1⟩ => ?_) hs rfl))
  obtain ⟨b, a, e, ⟨xs, h1⟩, q⟩ := q1
  subst e
  cases r1 with
  | cons r rr =>
    cases rr
    cases r
    exact enum_it I1 h1 q
end

/-! ### the forms one uses, for any iterator of known items -/
/-- n items while G holds; y i x H H': at i it hands out x and leaves H' -/
structure Seqs (J : It) (n : Nat) (G : Hp → Prop) (y : Nat → V → Hp → Hp → Prop) : Prop where
  go : ∀ i H, i < n → G H → J.go i H
  stop : ∀ H, G H → J.stop n H
  yld : ∀ i H x H', i < n → G H → J.yld i H x H' → y i x H H'
theorem seqs_list {K : PySem.W.Frag} {a : Addr} {xs : List V} : Seqs (Itl K a) xs.length (fun H => SqL K H a xs) (fun i x H H' => H' = H ∧ xs[i]? = some x) :=
  ⟨fun i H hi g => ⟨xs, xs[i], g, by simp [hi]⟩, fun H g => ⟨xs, g, Nat.le_refl _⟩, fun i H x H' hi g q => ⟨q.1, q.2 xs g⟩⟩
theorem seqs_tup {K : PySem.W.Frag} {a : Addr} {xs : List V} : Seqs (Itt K a) xs.length (fun H => SqT K H a xs) (fun i x H H' => H' = H ∧ xs[i]? = some x) :=
  ⟨fun i H hi g => ⟨xs, xs[i], g, by simp [hi]⟩, fun H g => ⟨xs, g, Nat.le_refl _⟩, fun i H x H' hi g q => ⟨q.1, q.2 xs g⟩⟩
theorem seqs_range {lo : Int} {n : Nat} : Seqs (Itr lo n) n (fun _ => True) (fun i x H H' => H' = H ∧ x = .int (lo + i)) :=
  ⟨fun i H hi _ => hi, fun H _ => Nat.le_refl _, fun i H x H' hi _ q => q⟩
theorem seqs_enum {K : PySem.W.Frag} {b : Bool} {l : Addr} {xs : List V} : Seqs (Ite K b l) xs.length (fun H => SqB K b H l xs)
    (fun i x H H' => ∃ T u, x = .ref T ∧ xs[i]? = some u ∧ H T = none ∧ H' = upd H T (.tup [.int i, u])) :=
  ⟨fun i H hi g => ⟨xs, xs[i], g, by simp [hi]⟩, fun H g => ⟨xs, g, Nat.le_refl _⟩, fun i H x H' hi g ⟨T, u, e1, e2, e3, e4⟩ => ⟨T, u, e1, e4 xs g, e2, e3⟩⟩

theorem for_any {J : It} {n : Nat} {G : Hp → Prop} {y : Nat → V → Hp → Hp → Prop} (S : Seqs J n G y) {g : TG} {tb : TS} {D : Ends} {σ : St} {H : Hp} (Pv : Nat → St → Hp → Prop) (h0 : Pv 0 σ H) (hl : ∀ i σ H, i ≤ n → Pv i σ H → G H)
    (hs : ∀ i x σ H H', i < n → Pv i σ H → y i x H H' → g x σ H' fun σ2 H2 => tb { D with nx := Pv (i + 1), ct := Pv (i + 1), bk := D.nx } σ2 H2) (hd : ∀ σ H, Pv n σ H → D.nx σ H) :
    ∃ W : Nat → Nat → St → Hp → Prop, (∃ m, W 0 m σ H) ∧ ∀ i m σ H, W i m σ H →
      (J.stop i H ∧ D.nx σ H) ∨ (J.go i H ∧ ∃ N : St → Hp → Prop, (∀ σ' H', N σ' H' → ∃ m', m' < m ∧ W (i + 1) m' σ' H') ∧ ∀ x H', J.yld i H x H' → g x σ H' fun σ2 H2 => tb { D with nx := N, ct := N, bk := D.nx } σ2 H2) := by
  refine ⟨fun i m σ H => m = n - i ∧ i ≤ n ∧ Pv i σ H, ⟨n, by simp, Nat.zero_le _, h0⟩, ?_⟩
  rintro i m σ H ⟨rfl, hi, p⟩
  by_cases hlt : i < n
  · exact .inr ⟨S.go i H hlt (hl i σ H hi p), Pv (i + 1), fun σ' H' p' => ⟨n - (i + 1), by lia, rfl, hlt, p'⟩, fun x H' q => hs i x σ H H' hlt p (S.yld i H x H' hlt (hl i σ H hi p) q)⟩
  · have e : i = n := by lia
    subst e
    exact .inl ⟨S.stop H (hl _ σ H hi p), hd σ H p⟩
theorem comp_any {J : It} {n : Nat} {G : Hp → Prop} {y : Nat → V → Hp → Hp → Prop} (S : Seqs J n G y) {σc : St} {g : TG} {ti : TT} {te : TE} {H : Hp} {Fn : List V → Hp → Prop} (Pv : Nat → List V → Hp → Prop) (h0 : Pv 0 [] H) (hl : ∀ i acc H, i ≤ n → Pv i acc H → G H)
    (hz : ∀ i acc H, i < n → Pv i acc H → acc.length < sizeLine)
    (hs : ∀ i acc x H H', i < n → Pv i acc H → y i x H H' → g x σc H' fun σ2 H2 => ti σ2 H2 fun b H3 => if b = true then te σ2 H3 fun v H4 => Pv (i + 1) (acc ++ [v]) H4 else Pv (i + 1) acc H3)
    (hd : ∀ acc H, Pv n acc H → Fn acc H) :
    ∃ W : TComp, (∃ m, W 0 m [] H) ∧ ∀ i m acc H, W i m acc H →
      (J.stop i H ∧ Fn acc H) ∨
      (J.go i H ∧ acc.length < sizeLine ∧ ∃ N : List V → Hp → Prop, (∀ acc' H', N acc' H' → ∃ m', m' < m ∧ W (i + 1) m' acc' H') ∧ ∀ x H', J.yld i H x H' → g x σc H' fun σ2 H2 => ti σ2 H2 fun b H3 => if b = true then te σ2 H3 fun v H4 => N (acc ++ [v]) H4 else N acc H3) := by
  refine ⟨fun i m acc H => m = n - i ∧ i ≤ n ∧ Pv i acc H, ⟨n, by simp, Nat.zero_le _, h0⟩, ?_⟩
  rintro i m acc H ⟨rfl, hi, p⟩
  by_cases hlt : i < n
  · exact .inr ⟨S.go i H hlt (hl i acc H hi p), hz i acc H hlt p, Pv (i + 1), fun acc' H' p' => ⟨n - (i + 1), by lia, rfl, hlt, p'⟩, fun x H' q => hs i acc x H H' hlt p (S.yld i H x H' hlt (hl i acc H hi p) q)⟩
  · have e : i = n := by lia
    subst e
    exact .inl ⟨S.stop H (hl _ acc H hi p), hd acc H p⟩
end L2

end
section
-- text: ExtF
set_option Elab.async false
set_option linter.all false
set_option maxRecDepth 100000
set_option maxHeartbeats 4000000
namespace L2
open PySem PySem.Spec PyProof.Rows
section
variable {X : Cx}

/-! ### // by any positive divisor below 2 ^ 64; products of large numbers -/
noncomputable def CDv (i j : Int) : Prop := 0 < j ∧ j < 2 ^ 64
theorem CDv.log {i j : Int} (h : CDv i j) : j.natAbs.log2 < 9000 := by
  obtain ⟨h1, h2⟩ := h
  have h0 : j.natAbs ≠ 0 := by lia
  have : j.natAbs < 2 ^ 64 := by lia
  exact Nat.lt_of_lt_of_le ((Nat.log2_lt h0).mpr this) (by decide)
theorem op_fdv : OpR X (binaryOp .FloorDiv) (rI CDv fun i j => .int (i / j)) := opI fun i j _ _ _ _ _ hc q => by
  have h1 : (0 : Int) < j := hc.1
  exact floordiv_int (by lia) (by rw [Int.fdiv_eq_ediv_of_nonneg i (by lia)]; exact q) (.inl (PyProof.noPylong_of_log2 hc.log))
noncomputable def CDvB (i j : Int) : Prop := 0 < j ∧ j < 2 ^ 1000
theorem CDvB.log {i j : Int} (h : CDvB i j) : j.natAbs.log2 < 9000 := by
  obtain ⟨h1, h2⟩ := h
  have h0 : j.natAbs ≠ 0 := by lia
  have : j.natAbs < 2 ^ 1000 := by lia
  exact Nat.lt_of_lt_of_le ((Nat.log2_lt h0).mpr this) (by decide)
theorem op_fdvB : OpR X (binaryOp .FloorDiv) (rI CDvB fun i j => .int (i / j)) := opI fun i j _ _ _ _ _ hc q => by
  have h1 : (0 : Int) < j := hc.1
  exact floordiv_int (by lia) (by rw [Int.fdiv_eq_ediv_of_nonneg i (by lia)]; exact q) (.inl (PyProof.noPylong_of_log2 hc.log))
theorem iop_fdv : OpR X (inplaceOp .FloorDiv) (rI CDv fun i j => .int (i / j)) := opI fun i j _ _ _ _ _ hc q => by
  have h1 : (0 : Int) < j := hc.1
  exact ifloordiv_int (by lia) (by rw [Int.fdiv_eq_ediv_of_nonneg i (by lia)]; exact q) (.inl (PyProof.noPylong_of_log2 hc.log))
theorem op_mulB : OpR X (binaryOp .Mult) (rI IntMulOk fun i j => .int (i * j)) := opI fun _ _ _ _ _ _ _ hc q => mul_int q hc

/-! ### a list against an empty one -/
noncomputable def rNeE (K : PySem.W.Frag) : R2 := fun x y H Q => ∃ a b xs, x = .ref a ∧ y = .ref b ∧ SqL K H a xs ∧ SqL K H b [] ∧ Q (.bl (!xs.isEmpty)) H
theorem op_neE (hu : X.A.units < cLine) : OpR X (compareOp .NotEq) (rNeE X.K) := by
  intro pins s σ H x y v u Q I rx ry h
  obtain ⟨a, b, xs, rfl, rfl, ha, hb, q⟩ := h
  cases rx; cases ry
  obtain ⟨us, r1, p1, z1⟩ := I.list ha
  obtain ⟨vs, r2, p2, z2⟩ := I.list hb
  cases r2
  cases xs with
  | nil =>
    cases r1
    exact SeqAt.RcNeAt.lists (e := fun _ => true) p1.isList p2.isList rfl hu (fun j h1 _ => absurd h1 (by simp)) _ _ _ _ ⟨.bl false, H, I, rfl, q⟩
  | cons x xs =>
    cases r1
    exact SeqAt.RcNeAt.lists_lengths p1.isList p2.isList (by simp) hu _ _ _ _ ⟨.bl true, H, I, rfl, q⟩

/-! ### xs[::-1] of a list -/
noncomputable def tRev (K : PySem.W.Frag) (te : TE) : TE := fun σ H Q => te σ H fun x H1 => ∃ a xs, x = .ref a ∧ SqL K H1 a xs ∧ ∀ p, H1 p = none → Q (.ref p) (upd H1 p (.lst xs.reverse))
theorem pe_rev {e : Expr} {te : TE} {p0 p1 p2 pos : Pos} {j} (he : PE X e te) : PE X (.Subscript e (.Slice none none (some (.UnaryOp .USub (.Constant (.int 1) j p0) p1)) p2) pos) (tRev X.K te) := by
  intro pins s σ H Q I h
  refine Subscript_ (thn (he pins s σ H _ I h) fun v s1 ⟨x, H1, I1, r1, q1⟩ => ?_)
  obtain ⟨a, xs, rfl, hx, q⟩ := q1
  cases r1
  refine wpAny_Slice ?_
  rw [evalPart_none]
  refine wpAny_pure ?_
  refine wpAny_pure ?_
  rw [evalPart_some]
  refine thn ((pe_un un_neg (pe_int (X := X))) pins s1 σ H1 (fun v H' => v = .int (-1) ∧ H' = H1) I1 ⟨1, rfl, rfl, rfl⟩) fun st s2 ⟨v, H2, I2, r2, e1, e2⟩ => ?_
  subst e1 e2
  obtain ⟨t, rfl⟩ := r2
  have I4 : Inv X pins σ H2 { s2 with heap := s2.heap.push { cls := .type "slice", data := .fields #[.none, .none, .int (-1) t] } } := I2.kept (t' := s2.toks) fun b ob q => Heap.get?_push_of_some _ q
  obtain ⟨its, r, ht, hz⟩ := I4.list hx
  have hlen := r.length
  show wpAny (model X.prog X.w) X.A (subscriptTail e _ (.ref a) (.ref s2.heap.objs.size)) (EP X pins σ Q) X.xe { s2 with heap := s2.heap.push { cls := .type "slice", data := .fields #[.none, .none, .int (-1) t] } }
  refine tail_any (ops := [.ref a, .ref s2.heap.objs.size]) ht.isList.typeIs slot_list_getitem.lookup ?_ (by with_unfolding_all rfl)
  refine wpAny_getItem_list_slice ht.isList (Heap.IsSliceOf.new ..) .none .none (.int (-1) t) (by simp) ?_ (by rw [List.size_toArray]; lia)
  rw [PySem.W.krv_pick]
  refine ⟨.ref _, _, I4.laid (t' := s2.toks) (o := .lst xs.reverse) (fun b ob q => Heap.get?_push_of_some _ q) (Nat.le_refl _) ?_, rfl, q _ (I4.hok.fresh (Nat.le_refl _))⟩
  exact ⟨by rw [List.length_reverse]; exact hz, its.reverse, 0, r.reverse, Heap.get?_push_size _ rfl⟩

/-! ### all, any of a list of truths -/
theorem vals_bools : ∀ {bs : List Bool} {us : List Value}, Vals (bs.map V.bl) us → us = bs.map Value.bool
  | [], _, .nil => rfl
  | b :: bs, _, .cons r t => by cases r; rw [vals_bools t]; rfl
theorem all_range (bs : List Bool) : (List.range bs.length).all (fun i => bs.getD i true) = bs.all id := by
  induction bs with
  | nil => rfl
  | cons b bs ih =>
    rw [List.length_cons, List.range_succ_eq_map, List.all_cons, List.all_cons, List.all_map]
    show ((b :: bs).getD 0 true && _) = _
    rw [List.getD_cons_zero]
    congr 1
noncomputable def rAllB (K : PySem.W.Frag) (f : List Bool → Bool) : List V → Hp → VK → Prop := fun xs H Q => ∃ a bs, xs = [.ref a] ∧ SqL K H a (bs.map V.bl) ∧ Q (.bl (f bs)) H
theorem bools_truth {P : Program} {w : World} {A : Around} {bs : List Bool} : TruthOf P w A (fun i v => (bs.map Value.bool).toArray[i]? = some v) (fun i => bs.getD i true) := by
  intro i v s Q E hv q
  have hv' : bs[i]?.map Value.bool = some v := by simpa using hv
  cases e : bs[i]? with
  | none => rw [e] at hv'; cases hv'
  | some b =>
    rw [e] at hv'; cases hv'
    have e2 : bs.getD i true = b := by simp [List.getD, e]
    have q' : Q (bs.getD i true) s := q
    rw [e2] at q'
    exact wpAny_truthy_bool q'
theorem call_all (hc : X.calm = true) : CallR X (.builtin "all") (rAllB X.K fun bs => bs.all id) := by
  intro pins s σ H xs us Q I r h
  obtain ⟨a, bs, rfl, ha, q⟩ := h
  obtain ⟨u, rfl, rx⟩ := vals1 r
  cases rx
  obtain ⟨its, r1, p1, z1⟩ := I.list ha
  have e := vals_bools r1
  subst e
  refine call_all_walk (wpAny_pyIter_list p1.isList ?_)
  have hh : X.A.in1.handled = none := I.ok.hd hc
  have ne : a ≠ s.heap.objs.size := fun z => by obtain ⟨o, n, e, _⟩ := p1; have l : s.heap.objs.size ≥ Nat.succ a := Heap.lt_size e; have z' : @Eq Nat a s.heap.objs.size := z; lia
  refine ⟨_, _, _, _, _, _, _, rfl, Walks.list hh s.heap.objs.size a ne _, ⟨⟨_, Heap.get?_push_size _ rfl, rfl, rfl⟩, p1.isList.push _⟩, bools_truth, fun h' tk k => ?_⟩
  have I1 : Inv X pins σ H { s with heap := h', toks := tk } := I.kept fun b o e => k b o (by simp only [List.mem_singleton]; exact Nat.ne_of_lt (Heap.lt_size e)) (Heap.get?_push_of_some _ e)
  refine ⟨.bl _, H, I1, ?_, q⟩
  show Value.bool _ = Value.bool _
  congr 1
  have := all_range bs
  simpa using this

/-! ### isinstance of a known kind -/
/-- the name of a value's kind -/
noncomputable def kindV (K : PySem.W.Frag) (H : Hp) : V → String → Prop
  | .non, T => T = "NoneType"
  | .bl _, T => T = "bool"
  | .int _, T => T = "int"
  | .str _, T => T = "str"
  | .ref a, T => (T = "list" ∧ ∃ xs, SqL K H a xs) ∨ (T = "tuple" ∧ ∃ xs, SqT K H a xs)
  | _, _ => False
noncomputable def subK (T U : String) : Bool := T == U || (T == "bool" && U == "int")
noncomputable def rIsi (K : PySem.W.Frag) (U : String) : List V → Hp → VK → Prop := fun xs H Q => ∃ x T, xs = [x, .ty U] ∧ kindV K H x T ∧ Q (.bl (subK T U)) H
theorem subK_ne {T U : String} (h : subK T U = false) : (Value.type T == Value.type U) = false := by
  have : T ≠ U := fun e => by subst e; simp [subK] at h
  simpa using this
theorem call_isi {U : String} (hty : typeOf (.type U) = pure (.type "type")) (hs : ∀ T ∈ ["NoneType", "bool", "int", "str", "list", "tuple"], isSubtype (.type T) (.type U) = pure (subK T U)) : CallR X (.builtin "isinstance") (rIsi X.K U) := by
  intro pins s σ H xs us Q I r h
  obtain ⟨x, T, rfl, hk, q⟩ := h
  obtain ⟨u, w', rfl, rx, ry⟩ := vals2 r
  cases ry
  have yes : ∀ {v : Value}, subK T U = true → s.TypeIs v T → T ∈ ["NoneType", "bool", "int", "str", "list", "tuple"] → wpAny (model X.prog X.w) X.A (call (.builtin "isinstance") [v, .type U]) (EP X pins σ Q) X.xe s := fun {v} hb ht hm =>
    call_isinstance_yes ht hty (by rw [hs T hm, hb]) ⟨.bl true, H, I, rfl, by rw [← hb]; exact q⟩
  have no : ∀ t, subK T U = false → EP X pins σ Q (.bool false) { s with toks := t } := fun t hb => ⟨.bl false, H, I.tok _, rfl, by rw [← hb]; exact q⟩
  cases x with
  | non =>
    cases rx; obtain rfl : T = "NoneType" := hk
    cases hb : subK "NoneType" U with
    | true => exact yes hb rfl (by simp)
    | false => exact call_isinstance (isinstance_false_none (subK_ne hb) hty (by rw [hs _ (by simp), hb])) (no _ hb)
  | bl b =>
    cases rx; obtain rfl : T = "bool" := hk
    cases hb : subK "bool" U with
    | true => exact yes hb rfl (by simp)
    | false => exact call_isinstance (isinstance_false_bool (subK_ne hb) hty (by rw [hs _ (by simp), hb])) (no _ hb)
  | int i =>
    obtain ⟨t, rfl⟩ := rx; obtain rfl : T = "int" := hk
    cases hb : subK "int" U with
    | true => exact yes hb (typeIs_int s i t) (by simp)
    | false => exact call_isinstance (isinstance_false_int (subK_ne hb) hty (by rw [hs _ (by simp), hb])) (no _ hb)
  | str i =>
    obtain ⟨t, rfl⟩ := rx; obtain rfl : T = "str" := hk
    cases hb : subK "str" U with
    | true => exact yes hb rfl (by simp)
    | false => exact call_isinstance (isinstance_false_str (subK_ne hb) hty (by rw [hs _ (by simp), hb])) (no _ hb)
  | ref a =>
    cases rx
    rcases hk with ⟨rfl, xs, hx⟩ | ⟨rfl, xs, hx⟩
    · obtain ⟨its, r1, p1, z1⟩ := I.list hx
      cases hb : subK "list" U with
      | true => exact yes hb p1.isList.typeIs (by simp)
      | false => exact call_isinstance (isinstance_false_list (subK_ne hb) hty (by rw [hs _ (by simp), hb])) ⟨let ⟨o, e, c, _⟩ := p1.isList; ⟨o, e, c⟩, no _ hb⟩
    · obtain ⟨its, r1, p1, z1⟩ := I.tuple hx
      cases hb : subK "tuple" U with
      | true => exact yes hb (show s.TypeIs (.ref a) "tuple" from let ⟨o, e, c, _⟩ := p1; ⟨o, e, c⟩) (by simp)
      | false => exact call_isinstance (isinstance_false_tuple (subK_ne hb) hty (by rw [hs _ (by simp), hb])) ⟨let ⟨o, e, c, _⟩ := p1; ⟨o, e, c⟩, no _ hb⟩
  | _ => exact False.elim hk
theorem isi_int : CallR X (.builtin "isinstance") (rIsi X.K "int") := call_isi (by rfl) (by intro T hT; simp only [List.mem_cons, List.not_mem_nil, or_false] at hT; rcases hT with rfl | rfl | rfl | rfl | rfl | rfl <;> (rw [isSubtype_type]; kernel_rfl))
theorem isi_bool : CallR X (.builtin "isinstance") (rIsi X.K "bool") := call_isi (by rfl) (by intro T hT; simp only [List.mem_cons, List.not_mem_nil, or_false] at hT; rcases hT with rfl | rfl | rfl | rfl | rfl | rfl <;> (rw [isSubtype_type]; kernel_rfl))
theorem isi_tuple : CallR X (.builtin "isinstance") (rIsi X.K "tuple") := call_isi (by rfl) (by intro T hT; simp only [List.mem_cons, List.not_mem_nil, or_false] at hT; rcases hT with rfl | rfl | rfl | rfl | rfl | rfl <;> (rw [isSubtype_type]; kernel_rfl))

/-! ### range(a, b, -1) -/
noncomputable def Itd (hi : Int) (n : Nat) : It := ⟨fun i _ => i < n, fun i H x H' => H' = H ∧ x = .int (hi - i), fun i _ => n ≤ i⟩
theorem turn_down {P : Program} {w : World} {K : PySem.W.Frag} {tg : Expr} (it : Addr) (hi : Int) (n : Nat) : Turn P w K tg (Itd hi n) [it] it (fun i h => IsRangeIter h it (hi + (i : Nat) * (-1)) ((n : Int) - (i : Nat)) (-1)) where
  mem := by simp
  obj := fun i h st b hb => by
    have e : b = it := by simpa using hb
    subst e
    exact ⟨_, st, fun v z => by have z' : Data.fields _ = Data.cell v := z; cases z'⟩
  keep := fun i h h' st k => k it (by simp) _ st
  item := by
    intro X hP hw hK hc i pins s σ H E I hf st hg
    subst hP hw hK
    obtain ⟨f0, f1, f2, f3, f4, f5⟩ := hf it (by simp)
    have W := Walks.range (prog := X.prog) (w := X.w) (I.ok.hd hc) it hi (-1) n
    refine W.item i s _ _ hg st fun v h' tk hv st' kk => ?_
    obtain ⟨t, rfl⟩ := hv
    have I1 : Inv X pins σ H { s with heap := h', toks := tk } := I.turned (fun b o hb e => kk b o (by simpa using hb) e) f0 f1 f3 f4 f5
    refine ⟨_, rfl, go_of (s := { s with heap := h', toks := tk }) (n := "range_iterator") st' rfl rfl (by decide) ⟨.int (hi - i), H, I1, ⟨t, ?_⟩, ⟨rfl, rfl⟩, st', fun b hb => (hf b hb).1⟩⟩
    congr 1; lia
  done := by
    intro X hP hw hK hc i pins s σ H E I hf st hg
    subst hP hw hK
    obtain ⟨f0, f1, f2, f3, f4, f5⟩ := hf it (by simp)
    exact wpAny_pyNext_range_end (I.ok.hd hc) st (by have : n ≤ i := hg; lia) fun h' eb => ⟨rfl, I.turned (t' := s.toks) (fun b o hb e => eb b o hb e) f0 f1 f3 f4 f5⟩
  self := fun _ _ _ _ _ st h => wpAny_pyIter_rangeiter st h
theorem seqs_down {hi : Int} {n : Nat} : Seqs (Itd hi n) n (fun _ => True) (fun i x H H' => H' = H ∧ x = .int (hi - i)) :=
  ⟨fun i H hi _ => hi, fun H _ => Nat.le_refl _, fun i H x H' hi _ q => q⟩
noncomputable def iDown (ta : TA) : TI := fun σ H R => ta σ H fun vs H1 => ∃ i j : Int, vs = [.int i, .int j, .int (-1)] ∧ (-(2 ^ 62) ≤ i ∧ i < 2 ^ 62 ∧ -(2 ^ 62) ≤ j ∧ j < 2 ^ 62) ∧ R (Itd i (i - j).toNat) H1
theorem pi_down {a b c : Expr} {ta : TA} {tg : Expr} {p pos : Pos} (hg : Gl X "range") (hm : X.mg "range" = none) (ha : PA X [a, b, c] ta) (hs : starEach [a, b, c] X.env = (false, eval a X.env) :: starEach [b, c] X.env := by rfl) (hs2 : (backTo pos (starEach [b, c] X.env)).any (·.1) = false := by rfl) :
    PI X tg (.Call (.Name "range" p) [a, b, c] [] pos) (iDown ta) := by
  intro pins s σ H R I h
  refine Call_ (ld_blt I hg hm boot_range (PyProof.Rows.callWith_type1 (thn (ha pos pins s σ H _ I h) fun us s1 ⟨vs, H1, I1, r1, q1⟩ => ?_) hs hs2))
  obtain ⟨i, j, e, ⟨b1, b2, b3, b4⟩, q⟩ := q1
  subst e
  cases r1 with
  | cons r rr =>
    cases rr with
    | cons r' rr =>
      cases rr with
      | cons r'' rr =>
        cases rr
        obtain ⟨t, rfl⟩ := r
        obtain ⟨t', rfl⟩ := r'
        obtain ⟨t'', rfl⟩ := r''
        refine call_range_3 (by decide) ?_ (.inl (PyProof.noPylong_small (by decide)))
        refine wpAny_pyIter_range (IsRange.new ..) (PySem.W.small_down b1 b2 b3 b4) ?_
        generalize hG : s1.heap.push { cls := .type "range", data := .fields #[.int i t, .int j t', .int (-1) t''] } = G
        have I2 : Inv X pins σ H1 { s1 with heap := G } := I1.kept (t' := s1.toks) fun b o e => hG ▸ Heap.get?_push_of_some _ e
        refine ⟨G.objs.size, [G.objs.size], _, _, H1, rfl, I2.kept (t' := s1.toks) fun b o e => Heap.get?_push_of_some _ e, turn_down _ i (i - j).toNat, ?_, fun b hb => ?_, q⟩
        · have e1 : i + ((0 : Nat) : Int) * (-1) = i := by simp
          have e2 : (((i - j).toNat : Nat) : Int) - ((0 : Nat) : Int) = Builtin.Range.rangeSize i j (-1) := by rw [PySem.W.rangeSize_downNat]; simp
          show IsRangeIter _ _ (i + ((0 : Nat) : Int) * (-1)) ((((i - j).toNat : Nat) : Int) - ((0 : Nat) : Int)) (-1)
          rw [e1, e2]
          exact Heap.get?_push_size _ rfl
        · have e : b = G.objs.size := by simpa using hb
          subst e
          exact I2.fpOk (Nat.le_refl _) (I2.hok.fresh (Nat.le_refl _))

/-! ### range(n) as an object, list of it -/
noncomputable def tRng (ta : TA) : TE := fun σ H Q => ta σ H fun vs H1 => ∃ j : Int, vs = [.int j] ∧ ∀ p, H1 p = none → Q (.ref p) (upd H1 p (.rng 0 j))
theorem pe_range1 {a : Expr} {ta : TA} {p pos : Pos} (hg : Gl X "range") (hm : X.mg "range" = none) (ha : PA X [a] ta) (hs : starEach [a] X.env = [(false, eval a X.env)] := by rfl) : PE X (.Call (.Name "range" p) [a] [] pos) (tRng ta) := by
  intro pins s σ H Q I h
  refine Call_ (ld_blt I hg hm boot_range (PyProof.Rows.callWith_type1 (thn (ha pos pins s σ H _ I h) fun us s1 ⟨vs, H1, I1, r1, q1⟩ => ?_) hs rfl))
  obtain ⟨j, e, q⟩ := q1
  subst e
  cases r1 with
  | cons r rr =>
    cases rr
    obtain ⟨t, rfl⟩ := r
    exact call_range_1 ⟨.ref _, _, I1.laid (o := .rng 0 j) (fun b o e => Heap.get?_push_of_some _ e) (Nat.le_refl _) ⟨_, _, _, Heap.get?_push_size _ rfl⟩, rfl, q _ I1.fresh⟩
noncomputable def intsFrom (lo : Int) (n : Nat) : List V := (List.range n).map fun (i : Nat) => V.int (lo + (i : Int))
theorem vals_of_get : ∀ {xs : List V} {us : List Value}, xs.length = us.length → (∀ (i : Nat) x u, xs[i]? = some x → us[i]? = some u → RelV x u) → Vals xs us
  | [], [], _, _ => .nil
  | [], _ :: _, h, _ => by simp at h
  | _ :: _, [], h, _ => by simp at h
  | x :: xs, u :: us, h, g => .cons (g 0 x u rfl rfl) (vals_of_get (by simpa using h) fun i y v e1 e2 => g (i + 1) y v (by simpa using e1) (by simpa using e2))
theorem itemsOf_vals {lo : Int} {n : Nat} {acc : Array Value} (h : ItemsOf (fun i v => ∃ t, v = .int (lo + i * 1) t) acc n) : Vals (intsFrom lo n) acc.toList := by
  refine vals_of_get (by simp [intsFrom, h.1]) fun i x u e1 e2 => ?_
  obtain ⟨t, rfl⟩ := h.2 i u (by simpa using e2)
  have : x = V.int (lo + i) := by
    unfold intsFrom at e1
    rw [List.getElem?_map] at e1
    cases hr : (List.range n)[i]? with
    | none => rw [hr] at e1; cases e1
    | some j =>
      rw [hr] at e1
      have : j = i := by
        obtain ⟨h1, h2⟩ := List.getElem?_eq_some_iff.mp hr
        simpa using h2.symm
      subst this
      exact (Option.some.inj e1).symm
  subst this
  exact ⟨t, by simp⟩
theorem call_list_rng (hc : X.calm = true) : CallR X (.type "list") (fun xs H Q => ∃ p lo hi, xs = [.ref p] ∧ H p = some (.rng lo hi) ∧ (-(2 ^ 62) ≤ lo ∧ lo < 2 ^ 62 ∧ -(2 ^ 62) ≤ hi ∧ hi < 2 ^ 62) ∧ (hi - lo).toNat ≤ sizeLine ∧ ∀ l, H l = none → Q (.ref l) (upd H l (.lst (intsFrom lo (hi - lo).toNat)))) := by
  intro pins s σ H xs us Q I r h
  obtain ⟨p, lo, hi, rfl, hp, ⟨b1, b2, b3, b4⟩, hz, q⟩ := h
  obtain ⟨u, rfl, rx⟩ := vals1 r
  cases rx
  obtain ⟨t, u, v, e⟩ := I.hok p _ hp
  refine call_list_range (n := (hi - lo).toNat) (I.ok.hd hc) e (small_one b1 b2 b3 b4) (by rw [rangeSize_one]; split <;> lia) (by have := sizeLine_eq; lia) fun h' tk acc c k ho hi' => ?_
  have rv := itemsOf_vals hi'
  refine ⟨.ref _, _, I.laid (t' := tk) k (Nat.le_refl _) (show ObjOk X.prog X.w _ h' _ (.lst (intsFrom lo (hi - lo).toNat)) from ⟨?_, acc.toList, c, rv, by simpa using ho⟩), rfl, q _ I.fresh⟩
  simpa [intsFrom] using hz

/-! ### a def of the text, ready to be called -/
/-- the def called x keeps sp, with n frames -/
noncomputable def Has (P : Program) (w : World) (K : PySem.W.Frag) (mg : Str → Option Value) (base : Heap) (n : Nat) (x : Str) (ps : List Str) (sp : Sp) : Prop :=
  ∃ f fd, FnOk P w K mg base CX0 n f fd ps sp ∧ Binds K fd ps [] ∧ PySem.W.keepIn K (.ref f) = true ∧ mg x = some (.ref f)
theorem pe_callH {n k : Nat} {x : Str} {ps : List Str} {sp : Sp} {e : Expr} {es : List Expr} {t : TA} {p pos : Pos} (h : Has X.prog X.w X.K X.mg X.base n x ps sp) (hr : Room k X.A) (hle : n ≤ k) (hg : Gl X x) (ha : PA X (e :: es) t)
    (hdb : (x == ("__debug__" : Str)) = false := by decide) (he : starEach (e :: es) X.env = (false, eval e X.env) :: starEach es X.env := by rfl) (hpl : (backTo pos (starEach es X.env)).any (·.1) = false := by rfl) :
    PE X (.Call (.Name x p) (e :: es) [] pos) (tCall sp [] E0 t) := by
  obtain ⟨f, fd, F, B, kp, m⟩ := h
  exact pe_call F (hr.mono hle) hg m kp B .nil pass0 ha hdb he hpl
/-- while, by a word and a measure, without more -/
theorem while_go {c : TT} {tb : TS} {D : Ends} {σ : St} {H : Hp} (Pv : St → Hp → Prop) (μ : St → Hp → Nat) (h0 : Pv σ H)
    (hs : ∀ σ H, Pv σ H → c σ H fun b H1 => if b = true then ∃ N : St → Hp → Prop, (∀ σ' H', N σ' H' → ∃ m', m' < μ σ H ∧ m' = μ σ' H' ∧ Pv σ' H') ∧ tb { D with nx := N, ct := N, bk := D.nx } σ H1 else D.nx σ H1) : tWhile c tb D σ H := by
  refine ⟨fun m σ H => m = μ σ H ∧ Pv σ H, ⟨_, rfl, h0⟩, ?_⟩
  rintro m σ H ⟨rfl, p⟩
  exact hs σ H p
end
end L2

end
section
-- text: ExtG
set_option Elab.async false
set_option linter.all false
set_option maxRecDepth 100000
set_option maxHeartbeats 4000000
namespace L2
open PySem PySem.Spec PyProof.Rows
section
variable {X : Cx}
theorem boot_ty_list : bootBuiltins "list" = some (.type "list") := by decide +kernel
theorem boot_ty_tuple : bootBuiltins "tuple" = some (.type "tuple") := by decide +kernel
theorem boot_ty_int : bootBuiltins "int" = some (.type "int") := by decide +kernel
theorem boot_ty_bool : bootBuiltins "bool" = some (.type "bool") := by decide +kernel
theorem boot_bi_abs : bootBuiltins "abs" = some (.builtin "abs") := by decide +kernel
theorem boot_bi_min : bootBuiltins "min" = some (.builtin "min") := by decide +kernel
theorem boot_bi_max : bootBuiltins "max" = some (.builtin "max") := by decide +kernel
theorem RelV_int (i : Int) (t : Tok) : RelV (.int i) (.int i t) := ⟨t, rfl⟩
end
end L2

end
section
-- text: ExtH
set_option Elab.async false
set_option linter.all false
set_option maxRecDepth 100000
set_option maxHeartbeats 4000000
namespace L2
open PySem PySem.Spec PyProof.Rows
/-! ### dict of a list of pairs -/
section
variable {prog : Program} {w : World} {K : Type} [DecidableEq K] {knd : KeyKind prog w K} {A : Around} {R : Result → Shared → Prop} {I ax d : Addr}
end
section
variable {X : Cx}
theorem Vals.getR : ∀ {xs : List V} {us : List Value}, Vals xs us → ∀ (j : Nat) x u, xs[j]? = some x → us[j]? = some u → RelV x u
  | _, _, .nil, j, x, u, e, _ => by simp at e
  | _ :: _, _ :: _, .cons r t, 0, x, u, e1, e2 => by simp at e1 e2; subst e1 e2; exact r
  | _ :: _, _ :: _, .cons r t, j + 1, x, u, e1, e2 => Vals.getR t j x u (by simpa using e1) (by simpa using e2)
end
end L2

end
section
-- text: ExtI
set_option Elab.async false
set_option linter.all false
set_option maxRecDepth 100000
set_option maxHeartbeats 4000000
namespace L2
open PySem PySem.Spec PyProof.Rows
section
variable {X : Cx}
/-! ### tuples of ints compared -/
/-! ### repr of a tuple, of a list, of ints -/
end
end L2

end
section
-- text: ExtJ
set_option Elab.async false
set_option linter.all false
set_option maxRecDepth 100000
set_option maxHeartbeats 4000000
namespace L2
open PySem PySem.Spec PyProof.Rows
section
variable {X : Cx} {pos : Pos}
/-! ### three names at once -/
noncomputable def tPar3 (i j k : Nat) (ta : TA) : TS := fun D σ H => ta σ H fun vs H1 => ∃ u v w, vs = [u, v, w] ∧ D.nx (((σ.set i (some u)).set j (some v)).set k (some w)) H1
theorem ps_par3 {i j k : Nat} {x y z : Str} {a b c : Expr} {ta : TA} {px py pz pt : Pos} {kt k2 pt2} (hc : X.calm = true) (hN : X.N.Nodup) (hi : X.N[i]? = some x) (hj : X.N[j]? = some y) (hk : X.N[k]? = some z) (hij : i ≠ j ∧ i ≠ k ∧ j ≠ k)
    (hx : X.env.scope.names.lookup x = some .local) (hy : X.env.scope.names.lookup y = some .local) (hz : X.env.scope.names.lookup z = some .local) (ha : PA X [a, b, c] ta)
    (hw : swappedStores [.Tuple [.Name x px, .Name y py, .Name z pz] kt pt] (.Tuple [a, b, c] k2 pt2) X.env = pure (some [x, y, z]))
    (hs : swapsWithSole [.Tuple [.Name x px, .Name y py, .Name z pz] kt pt] (.Tuple [a, b, c] k2 pt2) pos.line X.env = pure false := by rfl) :
    PS X (.Assign [.Tuple [.Name x px, .Name y py, .Name z pz] kt pt] (.Tuple [a, b, c] k2 pt2) pos) (tPar3 i j k ta) := by
  intro pins s σ H D I h
  rw [exec_Assign_arm]
  refine wpAny_bind (wpAny_standAt ?_)
  rw [hs]
  refine wpAny_bind (wpAny_pure ?_)
  rw [if_neg (by decide)]
  refine wpAny_bind (Tuple_ (thn (ha _ pins s σ H _ I h) fun us s1 ⟨vs, H1, I1, r1, q1⟩ => ?_))
  obtain ⟨v1, v2, v3, e1, q1⟩ := q1
  subst e1
  obtain ⟨u1, u2, u3, rfl, r1', r2', r3'⟩ : ∃ u1 u2 u3, us = [u1, u2, u3] ∧ RelV v1 u1 ∧ RelV v2 u2 ∧ RelV v3 u3 := by
    cases r1 with
    | cons p q =>
      cases q with
      | cons p' q' =>
        cases q' with
        | cons p'' q'' =>
          cases q''
          exact ⟨_, _, _, rfl, p, p', p''⟩
  refine wpAny_newObj_type ?_ (by show 3 ≤ sizeLine; decide)
  have I2 : Inv X pins σ H1 { s1 with heap := s1.heap.push { cls := .type "tuple", data := .seq [u1, u2, u3].toArray } } := I1.kept (t' := s1.toks) fun b o e => Heap.get?_push_of_some _ e
  rw [hw]
  refine wpAny_bind (wpAny_pure ?_)
  show wpAny (model X.prog X.w) X.A (do rule "assign.swapped-stores"; let items ← unpackItems (.ref s1.heap.objs.size) 3 none; assignInOrder [fun v => bindName X.env z v, fun v => bindName X.env y v, fun v => bindName X.env x v] items.reverse; pure Flow.next) _ _ _
  refine wpAny_bind (wpAny_rule (wpAny_bind (unpackItems_tuple (items := #[u1, u2, u3]) (I.ok.hd hc) (IsTup.new s1.heap _) fun h' hx' => ?_)))
  have I3 := I2.kept (h' := h') (t' := s1.toks) fun b o e => hx' b o (Nat.ne_of_lt (Heap.lt_size e)) e
  show wpAny _ _ (assignInOrder [fun v => bindName X.env z v, fun v => bindName X.env y v, fun v => bindName X.env x v] [u3, u2, u1] >>= fun _ => pure Flow.next) _ _ _
  refine wpAny_bind (assignInOrder_cons (wpAny_bindName (store_ok I3 hN hk (.inl hz) r3' (fun s2 I4 => ?_) (.inr hz))))
  refine assignInOrder_cons (wpAny_bindName (store_ok I4 hN hj (.inl hy) r2' (fun s2 I5 => ?_) (.inr hy)))
  refine assignInOrder_cons (wpAny_bindName (store_ok I5 hN hi (.inl hx) r1' (fun s3 I6 => assignInOrder_nil (wpAny_pure ?_)) (.inr hx)))
  have e : ((σ.set k (some v3)).set j (some v2)).set i (some v1) = ((σ.set i (some v1)).set j (some v2)).set k (some v3) := by
    rw [List.set_comm (some v3) (some v2) (Ne.symm hij.2.2), List.set_comm (some v3) (some v1) (Ne.symm hij.2.1), List.set_comm (some v2) (some v1) (Ne.symm hij.1)]
  rw [e] at I6
  exact ⟨_, H1, I6, q1⟩
/-! ### rules that name the frozen part, for a comprehension's own context -/
section
variable {K : PySem.W.Frag}
theorem ix_tupK (h : X.K = K) : IxR X (rIxT K) := h ▸ ix_tup
end
end
end L2

end
section
-- text: ExtK
set_option Elab.async false
set_option linter.all false
set_option maxRecDepth 100000
set_option maxHeartbeats 4000000
namespace L2
open PySem PySem.Spec PyProof.Rows
open MeetsSeq MeetsSeq2 MeetsSeq3
section
variable {X : Cx}
theorem tuple_add_0 (l b : Addr) (items2 : Array Value) (n n2 : Nat) (dd dd2 : Option Addr) (sl sl2 : Array (Option Value)) :
    Meets (Builtin.«tuple.__add__» ⟨[.ref l, .ref b], []⟩) (fun _ R s => s.heap.get? l = some { cls := .type "tuple", dict := dd, data := .seq #[] n, slots := sl } ∧ s.heap.get? b = some { cls := .type "tuple", dict := dd2, data := .seq items2 n2, slots := sl2 } ∧ R (.ok (.ret (.ref b))) s) :=
  .of_wp fun prog w A R s h => by
    obtain ⟨hp, g, d, tk, os⟩ := s; obtain ⟨hl, hb, h⟩ := h
    have hsub : isSubtype (.type "tuple") (.type "tuple") = pure true := by rw [isSubtype_type]; kernel_rfl
    wp_walk
    exact ⟨_, rfl, h⟩
/-- t + u -/
noncomputable def rCatU (K : PySem.W.Frag) : R2 := fun x y H Q => ∃ (a b : Addr) (xs ys : List V), x = .ref a ∧ y = .ref b ∧ SqT K H a xs ∧ SqT K H b ys ∧ xs.length + ys.length ≤ sizeLine ∧
  (xs = [] → Q (.ref b) H) ∧ (xs ≠ [] → ys = [] → Q (.ref a) H) ∧ (xs ≠ [] → ys ≠ [] → ∀ p, H p = none → Q (.ref p) (upd H p (.tup (xs ++ ys))))
theorem op_catU : OpR X (binaryOp .Add) (rCatU X.K) := by
  intro pins s σ H x y v u Q I rx ry h
  obtain ⟨a, b, xs, ys, rfl, rfl, ha, hb, hz, q0, q1, q2⟩ := h
  by_cases hx : xs = []
  · subst hx
    cases rx
    cases ry
    obtain ⟨its, r1, ⟨⟨cls, dd, data, sl⟩, ho, hc, n, hd⟩, _⟩ := I.tuple ha
    obtain ⟨its2, r2, ⟨⟨cls2, dd2, data2, sl2⟩, ho2, hc2, n2, hd2⟩, _⟩ := I.tuple hb
    simp only at hc hd hc2 hd2
    subst hc hd hc2 hd2
    cases r1
    exact concat_meets ⟨_, ho, rfl⟩ ⟨_, ho2, rfl⟩ noFill_tuple_add seq_tuple_add PySem.F.slot_tuple_add PySem.F.entry_tuple_add (PySem.F.args_tuple_add_2 _ _) (tuple_add_0 a b its2.toArray n n2 dd dd2 sl sl2) ⟨ho, ho2, ⟨.ref b, H, I, rfl, q0 rfl⟩⟩
  · exact op_catT pins s σ H _ _ v u Q I rx ry ⟨a, b, xs, ys, rfl, rfl, ha, hb, hx, hz, q1 hx, q2 hx⟩
end
end L2

end
section
-- text: ExtL
set_option Elab.async false
set_option linter.all false
set_option maxRecDepth 100000
set_option maxHeartbeats 4000000
namespace L2
open PySem PySem.Spec PyProof.Rows
/-! ### reversed of a tuple -/
section
variable {prog : Program} {w : World} {A : Around} {E : Value → Shared → Prop} {s : Shared}
end
section
variable {X : Cx}
end
end L2

end
section
-- text: ExtM
set_option Elab.async false
set_option linter.all false
set_option maxRecDepth 100000
set_option maxHeartbeats 4000000
namespace L2
open PySem PySem.Spec PyProof.Rows
/-! ### sorted of a list of fewer than 64 ints -/
section
variable {X : Cx}
end
end L2

end
section
-- text: ExtN
set_option Elab.async false
set_option linter.all false
set_option maxRecDepth 100000
set_option maxHeartbeats 4000000
namespace L2
open PySem PyProof.Rows
/-! ### tuples within tuples, alike -/
section
variable {X : Cx}
theorem vals_get {xs : List V} {us : List Value} (h : Vals xs us) {i : Nat} (hi : i < us.toArray.size) : ∃ x, xs[i]? = some x ∧ RelV x us.toArray[i] := by
  have hl := h.length
  rw [List.size_toArray] at hi
  have hx : xs[i]? = some (xs[i]'(by lia)) := List.getElem?_eq_getElem (by lia)
  have hu : us[i]? = some (us[i]) := List.getElem?_eq_getElem hi
  exact ⟨_, hx, h.getR i _ _ hx hu⟩
/-! ### a list that is [] -/
end
end L2

end
section
-- text: ExtO
set_option Elab.async false
set_option linter.all false
set_option maxRecDepth 100000
set_option maxHeartbeats 4000000
namespace L2
open PySem PyProof.Rows
/-! ### sets of ints: the places of the table rise -/
noncomputable def Rise (xs : Array Nat) : Prop := xs.toList.Pairwise (· < ·)
/-- a table's own word: led as told, and its places rise while it is plain -/
structure TabG (led : Bool) (t : SetTable) : Prop where
  led : t.led = led
  rise : t.plain = true → Rise t.place
/-! ### a set of ints, with its table's word -/
section
variable {prog : Program} {w : World} {A : Around} {E : Value → Shared → Prop} {s : Shared}
noncomputable abbrev byText (w : World) : Bool := w.params.followText "set-order"
section
variable {R : Result → Shared → Prop} {I : Addr} {fp wr : List Addr} {G : Array GenState → Array GenState → Prop} {n : Nat} {P : Nat → Value → Prop} {St : Nat → Shared → Prop}
end
noncomputable abbrev newSetO (w : World) : Obj := { cls := .type "set", dict := none, data := .set #[] 0 (.fresh 0 0 (!byText w)) }
end
end L2

end
section
-- text: ExtP
set_option Elab.async false
set_option linter.all false
set_option maxRecDepth 100000
set_option maxHeartbeats 4000000
namespace L2
open PySem PyProof.Rows
/-! ### walking a set -/
section
variable {prog : Program} {w : World} {A : Around} {E : Value → Shared → Prop} {s : Shared}
/-! the walk by drawn places -/
/-! what the table's walk tells -/
end
end L2

end
section
-- text: ExtQ
set_option Elab.async false
set_option linter.all false
set_option maxRecDepth 100000
set_option maxHeartbeats 4000000
namespace L2
open PySem PyProof.Rows
section
variable {prog : Program} {w : World} {A : Around} {E : Value → Shared → Prop} {s : Shared}
/-! ### the three walks -/
noncomputable abbrev GE : Array GenState → Array GenState → Prop := fun a b => b = a
end
end L2

end
section
-- text: ExtR
set_option Elab.async false
set_option linter.all false
set_option maxRecDepth 100000
set_option maxHeartbeats 4000000
namespace L2
open PySem PyProof.Rows
section
variable {prog : Program} {w : World} {A : Around} {E : Value → Shared → Prop} {s : Shared}
/-- what a collected set leaves -/
structure Left (s s' : Shared) : Prop where
  heap : ∀ b o, s.heap.get? b = some o → s'.heap.get? b = some o
  gens : s'.gens = s.gens
  os : s'.os = s.os
  toks : s.toks ≤ s'.toks
  size : s.heap.objs.size ≤ s'.heap.objs.size
end
end L2

end
section
-- text: ExtS
set_option Elab.async false
set_option linter.all false
set_option maxRecDepth 100000
set_option maxHeartbeats 4000000
namespace L2
open PySem PyProof.Rows
/-! ### lists without twins -/
section
variable {prog : Program} {w : World} {A : Around} {E : Value → Shared → Prop} {s : Shared}
end
end L2

end
section
-- text: ExtT
set_option Elab.async false
set_option linter.all false
set_option maxRecDepth 100000
set_option maxHeartbeats 4000000
namespace L2
open PySem PyProof.Rows
section
variable {X : Cx}
end
end L2

end
section
-- text: ExtU
set_option Elab.async false
set_option linter.all false
set_option maxRecDepth 100000
set_option maxHeartbeats 4000000
namespace L2
open PySem PySem.Spec PyProof.Rows
section
variable {X : Cx}
/-! ### max of a list of ints -/
end
end L2

end
section
-- text: ExtV
set_option Elab.async false
set_option linter.all false
set_option maxRecDepth 100000
set_option maxHeartbeats 4000000
namespace HT
open PySem PyProof.Rows
section
variable {prog : Program} {w : World} {A : Around} {E : Value → Shared → Prop} {s : Shared}
/-! ### t[::-1] -/
theorem sliceApplied_rev {sl : Addr} {t : Tok} {n : Nat} {Q : Int × Int × Nat → Shared → Prop} (hs : s.heap.IsSliceOf sl .none .none (.int (-1) t))
    (h : Q ((n : Int) - 1, -1, n) s) : wpAny (model prog w) A (Builtin.Slice.sliceApplied (.ref sl) (pure (n : Int))) Q E s := by
  obtain ⟨os, hos, hcs, hds⟩ := id hs
  unfold Builtin.Slice.sliceApplied Builtin.Slice.sliceFields
  refine wpAny_bind (wpAny_bind (wpAny_field hos hds (x := .none) rfl (wpAny_bind (wpAny_field hos hds (x := .none) rfl (wpAny_bind (wpAny_field hos hds (x := .int (-1) t) rfl (wpAny_pure ?_)))))))
  refine wpAny_bind (slicePart_ (.int (-1) t) ?_)
  show wpAny _ _ (if ((-1 : Int) == 0) = true then _ else _) _ _ s
  rw [if_neg (by decide)]
  refine wpAny_bind (slicePart_none (wpAny_bind (slicePart_none (wpAny_bind (wpAny_pure ?_)))))
  show wpAny _ _ (pure ((n : Int) - 1, (-1 : Int), Builtin.Slice.slicePlaces ((n : Int) - 1) (-1) (-1))) _ _ s
  have e : Builtin.Slice.slicePlaces ((n : Int) - 1) (-1) (-1) = n := by
    unfold Builtin.Slice.slicePlaces
    rw [if_neg (by decide)]
    by_cases c : n = 0
    · subst c; rfl
    · rw [if_pos (by lia), show (-(-1 : Int)) = 1 from rfl, Int.ediv_one]
      lia
  rw [e]
  exact wpAny_pure h
theorem fm_congr {α β : Type} {f g : α → Option β} : ∀ (l : List α), (∀ m ∈ l, f m = g m) → l.filterMap f = l.filterMap g
  | [], _ => rfl
  | x :: l, h => by
    rw [List.filterMap_cons, List.filterMap_cons, h x List.mem_cons_self, fm_congr l fun m hm => h m (List.mem_cons_of_mem _ hm)]
theorem pick_rev (xs : Array Value) : ((List.range xs.size).filterMap fun (m : Nat) => xs[(((xs.size : Int) - 1) + (m : Int) * (-1)).toNat]?).toArray = xs.toList.reverse.toArray := by
  congr 1
  have h : ∀ m ∈ List.range xs.size, xs[(((xs.size : Int) - 1) + (m : Int) * (-1)).toNat]? = xs.toList.reverse[m]? := fun m hm => by
    have hm := List.mem_range.mp hm
    rw [List.getElem?_reverse (by simpa using hm), Array.length_toList, Array.getElem?_toList]
    congr 1
    lia
  rw [fm_congr _ h]
  have := PySem.List.filterMap_getElem?_range_length xs.toList.reverse
  rwa [List.length_reverse, Array.length_toList] at this
theorem getItem_tuple_rev {t sl : Addr} {items : Array Value} {tk : Tok} {Q : Value → Shared → Prop} (ht : IsTup s.heap t items) (hs : s.heap.IsSliceOf sl .none .none (.int (-1) tk))
    (h : Q (.ref s.heap.objs.size) { s with heap := s.heap.push { cls := .type "tuple", data := .seq items.toList.reverse.toArray } })
    (hsz : items.size ≤ sizeLine) : wpAny (model prog w) A (getItem (.ref t) (.ref sl)) Q E s := by
  have htake : sizeOk (.seq items.toList.reverse.toArray) := by
    show items.toList.reverse.toArray.size ≤ sizeLine
    rw [List.size_toArray, List.length_reverse, Array.length_toList]; exact hsz
  obtain ⟨os, hos, hcs, hds⟩ := id hs
  have hTs : s.TypeIs (.ref sl) "slice" := ⟨os, hos, hcs⟩
  unfold getItem
  try with_reducible refine wpAny_holding ?_
  first | refine wpAny_bind (wpAny_pure ?_) | skip
  refine wpAny_bind (wpAny_sequenceKey ht.typeIs (by decide) ?_)
  refine wpAny_bind (wpAny_callSpecial?_slot (name := Str.ofString "__getitem__") ht.typeIs PyProof.Rows.slot_tuple_getitem
    (wpAny_call_entry PyProof.Rows.slot_tuple_getitem ht.typeIs entry_tuple_getitem ?_ (args_tuple_getitem _ _)))
  show wpAny _ _ (Builtin.Tuple.tupleItemsOf (.ref t) >>= _) _ _ s
  refine wpAny_bind (tupleItemsOf_ ht ?_)
  refine wpAny_bind (wpAny_typeOf hTs ?_)
  rw [if_pos (by decide)]
  refine wpAny_bind (sliceApplied_rev hs ?_)
  show wpAny _ _ (if ((((items.size : Int) - 1) == 0 && (-1 : Int) == 1 && items.size == items.size) = true) then _ else _) _ _ s
  rw [if_neg (by simp), pick_rev]
  first
    | exact wpAny_bind (m := Builtin.Tuple.tupleExact _) (wpAny_newObj_type (wpAny_pure ⟨_, rfl, wpAny_pure h⟩) htake)
    | exact wpAny_bind (m := Builtin.Tuple.tupleExact _) (wpAny_newObj_type (wpAny_bind (wpAny_pure (wpAny_pure ⟨_, rfl, wpAny_pure h⟩))) htake)
    | exact wpAny_bind (wpAny_bind (m := Builtin.Tuple.tupleExact _) (wpAny_newObj_type (wpAny_pure (wpAny_pure ⟨_, rfl, wpAny_pure h⟩)) htake))
    | exact wpAny_bind (wpAny_bind (m := Builtin.Tuple.tupleExact _) (wpAny_newObj_type (wpAny_pure ⟨_, rfl, wpAny_pure h⟩) htake))
end
end HT
namespace L2
open PySem PyProof.Rows
section
variable {X : Cx}
noncomputable def tRevT (K : PySem.W.Frag) (te : TE) : TE := fun σ H Q => te σ H fun x H1 => ∃ a xs, x = .ref a ∧ SqT K H1 a xs ∧ ∀ p, H1 p = none → Q (.ref p) (upd H1 p (.tup xs.reverse))
theorem pe_revT {e : Expr} {te : TE} {p0 p1 p2 pos : Pos} {j} (he : PE X e te) : PE X (.Subscript e (.Slice none none (some (.UnaryOp .USub (.Constant (.int 1) j p0) p1)) p2) pos) (tRevT X.K te) := by
  intro pins s σ H Q I h
  refine Subscript_ (thn (he pins s σ H _ I h) fun v s1 ⟨x, H1, I1, r1, q1⟩ => ?_)
  obtain ⟨a, xs, rfl, hx, q⟩ := q1
  cases r1
  refine wpAny_Slice ?_
  rw [evalPart_none]
  refine wpAny_pure ?_
  refine wpAny_pure ?_
  rw [evalPart_some]
  refine thn ((pe_un un_neg (pe_int (X := X))) pins s1 σ H1 (fun v H' => v = .int (-1) ∧ H' = H1) I1 ⟨1, rfl, rfl, rfl⟩) fun st s2 ⟨v, H2, I2, r2, e1, e2⟩ => ?_
  subst e1 e2
  obtain ⟨t, rfl⟩ := r2
  have I4 : Inv X pins σ H2 { s2 with heap := s2.heap.push { cls := .type "slice", data := .fields #[.none, .none, .int (-1) t] } } := I2.kept (t' := s2.toks) fun b ob q => Heap.get?_push_of_some _ q
  obtain ⟨its, r, ht, hz⟩ := I4.tuple hx
  have hlen := r.length
  show wpAny (model X.prog X.w) X.A (subscriptTail e _ (.ref a) (.ref s2.heap.objs.size)) (EP X pins σ Q) X.xe { s2 with heap := s2.heap.push { cls := .type "slice", data := .fields #[.none, .none, .int (-1) t] } }
  refine tail_any (ops := [.ref a, .ref s2.heap.objs.size]) ht.typeIs PyProof.Rows.slot_tuple_getitem.lookup ?_ (by with_unfolding_all rfl)
  refine HT.getItem_tuple_rev ht (Heap.IsSliceOf.new ..) ?_ (by rw [List.size_toArray]; lia)
  refine ⟨.ref _, _, I4.laid (t' := s2.toks) (o := .tup xs.reverse) (fun b ob q => Heap.get?_push_of_some _ q) (Nat.le_refl _) ?_, rfl, q _ (I4.hok.fresh (Nat.le_refl _))⟩
  exact ⟨by rw [List.length_reverse]; exact hz, its.reverse, r.reverse, IsTup.new _ _⟩
end
end L2

end
section
-- text: ExtW
set_option Elab.async false
set_option linter.all false
set_option maxRecDepth 100000
set_option maxHeartbeats 4000000
namespace HT
open PySem PyProof.Rows
section
variable {prog : Program} {w : World} {A : Around} {E : Value → Shared → Prop} {s : Shared}
/-! ### t[lo:hi], the whole of it -/
theorem getItem_tuple_whole {t sl : Addr} {items : Array Value} {vl vu : Value} {lo hi : Option Int} {Q : Value → Shared → Prop} (ht : IsTup s.heap t items) (hs : s.heap.IsSliceOf sl vl vu .none) (pl : IsPart vl lo) (pu : IsPart vu hi)
    (hw : sIx items.size 0 lo = 0 ∧ sIx items.size items.size hi = items.size) (h : Q (.ref t) s) : wpAny (model prog w) A (getItem (.ref t) (.ref sl)) Q E s := by
  obtain ⟨os, hos, hcs, hds⟩ := id hs
  have hTs : s.TypeIs (.ref sl) "slice" := ⟨os, hos, hcs⟩
  unfold getItem
  try with_reducible refine wpAny_holding ?_
  first | refine wpAny_bind (wpAny_pure ?_) | skip
  refine wpAny_bind (wpAny_sequenceKey ht.typeIs (by decide) ?_)
  refine wpAny_bind (wpAny_callSpecial?_slot (name := Str.ofString "__getitem__") ht.typeIs PyProof.Rows.slot_tuple_getitem
    (wpAny_call_entry PyProof.Rows.slot_tuple_getitem ht.typeIs entry_tuple_getitem ?_ (args_tuple_getitem _ _)))
  show wpAny _ _ (Builtin.Tuple.tupleItemsOf (.ref t) >>= _) _ _ s
  refine wpAny_bind (tupleItemsOf_ ht ?_)
  refine wpAny_bind (wpAny_typeOf hTs ?_)
  rw [if_pos (by decide)]
  refine wpAny_bind (sliceApplied_gen hs pl pu ?_)
  have hyes : (((sIx items.size 0 lo : Nat) : Int) == 0 && (1 : Int) == 1 && (sIx items.size items.size hi - sIx items.size 0 lo) == items.size) = true := by
    rw [hw.1, hw.2, Nat.sub_zero]; simp
  show wpAny _ _ (if (((sIx items.size 0 lo : Nat) : Int) == 0 && (1 : Int) == 1 && (sIx items.size items.size hi - sIx items.size 0 lo) == items.size) = true then _ else _) _ _ s
  rw [if_pos hyes]
  unfold Builtin.Tuple.tupleIsExact
  refine wpAny_bind (wpAny_bind (wpAny_typeOf ht.typeIs (wpAny_pure ?_)))
  rw [if_pos (by decide)]
  first
    | exact wpAny_bind (wpAny_rule (wpAny_pure ⟨_, rfl, wpAny_pure h⟩))
    | exact wpAny_bind (wpAny_bind (wpAny_rule (wpAny_pure (wpAny_pure ⟨_, rfl, wpAny_pure h⟩))))
    | exact wpAny_bind (wpAny_rule (wpAny_bind (wpAny_pure (wpAny_pure ⟨_, rfl, wpAny_pure h⟩))))
    | (refine wpAny_bind (wpAny_rule ?_); trace_state; exact wpAny_pure h)
end
end HT
namespace L2
open PySem PyProof.Rows
section
variable {X : Cx}
/-- t[lo:hi] of any tuple: the tuple itself, where it is the whole -/
noncomputable def rSlA (K : PySem.W.Frag) : V → Option Int → Option Int → Hp → VK → Prop := fun x lo hi H Q => ∃ a xs, x = .ref a ∧ SqT K H a xs ∧ (cutV xs lo hi = xs → Q (.ref a) H) ∧ ∀ p, H p = none → Q (.ref p) (upd H p (.tup (cutV xs lo hi)))
theorem sl_tupA : SlR X (rSlA X.K) := by
  intro pins s σ H x v vl vu lo hi sl Q I rx hs pl pu h
  obtain ⟨a, xs, rfl, hx, q1, q⟩ := h
  by_cases hw : HT.sIx xs.length 0 lo = 0 ∧ HT.sIx xs.length xs.length hi = xs.length
  · cases rx
    obtain ⟨its, r, ht, hz⟩ := I.tuple hx
    have hlen : its.toArray.size = xs.length := by rw [List.size_toArray]; exact r.length.symm
    refine ⟨"tuple", _, PyProof.Rows.slot_tuple_getitem.lookup, ht.typeIs, ?_⟩
    refine HT.getItem_tuple_whole ht hs pl pu (by rw [hlen]; exact hw) ?_
    exact ⟨.ref a, H, I, rfl, q1 (by unfold cutV; rw [hw.1, hw.2, Nat.sub_zero, List.drop_zero, List.take_length])⟩
  · exact sl_tup pins s σ H _ v vl vu lo hi sl Q I rx hs pl pu ⟨a, xs, rfl, hx, hw, q⟩
end
end L2

end
section
-- text: ExtX
set_option Elab.async false
set_option linter.all false
set_option maxRecDepth 100000
set_option maxHeartbeats 4000000
namespace L2
open PySem PySem.Spec PyProof.Rows
section
variable {X : Cx}
end
end L2

end
section
-- text: ExtY
set_option Elab.async false
set_option linter.all false
set_option maxRecDepth 100000
set_option maxHeartbeats 4000000
namespace L2
open PySem PySem.Spec PyProof.Rows
section
variable {X : Cx}
/-! ### min of a list of ints -/
/-! ### wheels compared -/
/-! ### repr of an int or None -/
theorem log_small : ∀ n : Nat, n < 100 → (n : Int).natAbs.log2 < 1920 := fun n h => by
  rw [Int.natAbs_natCast]
  rcases Nat.eq_zero_or_pos n with e | e
  · rw [e]; decide
  · exact Nat.lt_of_lt_of_le ((Nat.log2_lt (k := 7) (by lia)).mpr (by lia)) (by decide)
end
end L2
namespace L2
open PySem PySem.Spec PyProof.Rows
section
variable {X : Cx} {K : PySem.W.Frag}
end
end L2

end
section
-- text: ExtZ
set_option Elab.async false
set_option linter.all false
set_option maxRecDepth 100000
set_option maxHeartbeats 4000000
namespace L2
open PySem PySem.Spec PyProof.Rows
/-! ### repr of a list of tuples within tuples -/
noncomputable def RdN (K : PySem.W.Frag) (H : Hp) : Nat → V → PyData → Prop
  | 0, _, _ => False
  | n + 1, v, d => (∃ i : Int, v = .int i ∧ d = .int i) ∨ ∃ (a : Addr) (xs : List V) (ds : List PyData), v = .ref a ∧ d = .tuple ds ∧ SqT K H a xs ∧ xs.length = ds.length ∧ ∀ (i : Nat) x e, xs[i]? = some x → ds[i]? = some e → RdN K H n x e
theorem readsAll_of {h : Heap} : ∀ {us : List Value} {ds : List PyData}, us.length = ds.length → (∀ (i : Nat) u e, us[i]? = some u → ds[i]? = some e → Reads h u e []) → ReadsAll h us ds []
  | [], [], _, _ => .nil
  | [], _ :: _, hl, _ => by cases hl
  | _ :: _, [], hl, _ => by cases hl
  | u :: us, d :: ds, hl, hr => by
    have h1 := hr 0 u d rfl rfl
    have h2 := readsAll_of (us := us) (ds := ds) (by simpa using hl) fun i u' e hu he => hr (i + 1) u' e hu he
    exact .cons (as := []) (bs := []) h1 h2
section
variable {X : Cx}
theorem reads_of {pins : List (Addr × Obj)} {σ : St} {H : Hp} {s : Shared} (I : Inv X pins σ H s) : ∀ (n : Nat) (x : V) (d : PyData) (u : Value), RdN X.K H n x d → RelV x u → Reads s.heap u d []
  | 0, _, _, _, h, _ => h.elim
  | n + 1, x, d, u, h, r => by
    rcases h with ⟨i, rfl, rfl⟩ | ⟨a, xs, ds, rfl, rfl, ha, hl, hx⟩
    · obtain ⟨t, rfl⟩ := r
      exact .int i t
    · cases r
      obtain ⟨us, r1, ⟨o, ho, hc, k, hd⟩, z1⟩ := I.tuple ha
      have l1 := r1.length
      refine .tuple ho hc hd (readsAll_of (by simp; lia) fun i u e hu he => ?_)
      have hi := (List.getElem?_eq_some_iff.mp hu).1
      obtain ⟨x1, e1, q1⟩ := vals_get r1 (i := i) (by simpa using hi)
      have eu : us.toArray[i]'(by simpa using hi) = u := by
        have := (List.getElem?_eq_some_iff.mp hu).2
        simpa using this
      rw [eu] at q1
      exact reads_of I n x1 e u (hx i x1 e e1 he) q1
end
structure DOk (d : PyData) (w : Nat) : Prop where
  sh : d.showable = true
  nd : d.hasDict = false
  dp : d.depth ≤ 40
  sl : d.leavesShort 8 = true
  we : d.weight ≤ w
section
variable {X : Cx}
/-! ### repr of a tuple of tuples -/
end
end L2

end
section
-- text: ExtRa
set_option Elab.async false
set_option linter.all false
set_option maxRecDepth 100000
set_option maxHeartbeats 4000000
namespace L2
open PySem PySem.Spec PyProof.Rows
/-! ### tuple(range(n)) -/
section
variable {prog : Program} {w : World} {A : Around} {E : Value → Shared → Prop} {s : Shared}
end
section
variable {X : Cx}
end
end L2

end
section
-- text: ExtRb
set_option Elab.async false
set_option linter.all false
set_option maxRecDepth 100000
set_option maxHeartbeats 4000000
namespace L2
open PySem PySem.Spec PyProof.Rows
section
variable {X : Cx}
/-! ### lists of ints, as long as one another, compared -/
end
end L2

end
section
-- text: ExtRc
set_option Elab.async false
set_option linter.all false
set_option maxRecDepth 100000
set_option maxHeartbeats 4000000
namespace L2
open PySem PySem.Spec PyProof.Rows
/-! ### a dict's keys walked: the dict stands frozen meanwhile -/
section
variable {X : Cx} {pins : List (Addr × Obj)} {σ : St} {H : Hp} {s : Shared} {a : Addr}
end
section
variable {X : Cx} {tg : Expr}
end
end L2

end
section
-- text: MathA
set_option linter.all false
set_option autoImplicit false
namespace Dg
/-- digit i of x to the base p -/
noncomputable def dg (p i x : Nat) : Nat := x / p ^ i % p
theorem dg_zero (p x : Nat) : dg p 0 x = x % p := by simp [dg]
theorem dg_succ (p i x : Nat) : dg p (i + 1) x = dg p i (x / p) := by
  unfold dg; rw [Nat.pow_succ, Nat.mul_comm, Nat.div_div_eq_div_mul]
theorem dg_lt {p : Nat} (hp : 2 ≤ p) (i x : Nat) : dg p i x < p := Nat.mod_lt _ (by lia)
theorem dg_of_lt {p : Nat} (hp : 2 ≤ p) {i k x : Nat} (h : x < p ^ k) (hk : k ≤ i) : dg p i x = 0 := by
  unfold dg
  have : x < p ^ i := Nat.lt_of_lt_of_le h (Nat.pow_le_pow_right (by lia) hk)
  rw [Nat.div_eq_of_lt this, Nat.zero_mod]
theorem dg_nil (p i : Nat) : dg p i 0 = 0 := by simp [dg]
theorem ext {p : Nat} (hp : 2 ≤ p) : ∀ {a b : Nat}, (∀ i, dg p i a = dg p i b) → a = b := by
  intro a
  induction a using Nat.strongRecOn with
  | _ a ih =>
    intro b h
    have h0 := h 0
    rw [dg_zero, dg_zero] at h0
    by_cases ha : a = 0
    · subst ha
      -- all digits of b are 0
      have key : ∀ n, ∀ b, b ≤ n → (∀ i, dg p i b = 0) → b = 0 := by
        intro n
        induction n with
        | zero => intro b hb _; lia
        | succ n ihn =>
          intro b hb hz
          by_cases hb0 : b = 0
          · exact hb0
          · have hlt : b / p < b := Nat.div_lt_self (by lia) (by lia)
            have hd : b / p = 0 := ihn (b / p) (by lia) fun i => by rw [← dg_succ]; exact hz (i + 1)
            have hm : b % p = 0 := by rw [← dg_zero]; exact hz 0
            have := Nat.div_add_mod b p
            rw [hd, hm] at this
            simpa using this.symm
      exact (key b b (Nat.le_refl _) fun i => by rw [← h i, dg_nil]).symm
    · have hlt : a / p < a := Nat.div_lt_self (by lia) (by lia)
      have hd : a / p = b / p := ih (a / p) hlt fun i => by rw [← dg_succ, ← dg_succ]; exact h (i + 1)
      have e1 := Nat.div_add_mod a p
      have e2 := Nat.div_add_mod b p
      rw [← e1, ← e2, hd, h0]
theorem lt_of_zero {p : Nat} (hp : 2 ≤ p) {j r : Nat} (h : ∀ i, j ≤ i → dg p i r = 0) : r < p ^ j := by
  have hpos : 0 < p ^ j := Nat.pow_pos (by lia)
  have hq : r / p ^ j = 0 := by
    refine ext hp fun i => ?_
    rw [dg_nil]
    have := h (j + i) (by lia)
    unfold dg at this ⊢
    rw [Nat.pow_add, ← Nat.div_div_eq_div_mul] at this
    exact this
  have := Nat.div_add_mod r (p ^ j)
  rw [hq, Nat.mul_zero, Nat.zero_add] at this
  rw [← this]
  exact Nat.mod_lt _ hpos
/-- a number with one more digit ahead: digits of t + u * d for t < p ^ k, u = p ^ k, d < p -/
theorem dg_put {p : Nat} (hp : 2 ≤ p) {k t d : Nat} (ht : t < p ^ k) (hd : d < p) (i : Nat) : dg p i (t + d * p ^ k) = if i = k then d else dg p i t := by
  have hpos : 0 < p ^ k := Nat.pow_pos (by lia)
  unfold dg
  by_cases h1 : i < k
  · rw [if_neg (by lia)]
    obtain ⟨c, rfl⟩ : ∃ c, k = i + (c + 1) := ⟨k - i - 1, by lia⟩
    have e : d * p ^ (i + (c + 1)) = p ^ i * (d * p ^ c * p) := by rw [Nat.pow_add, Nat.pow_succ]; ac_rfl
    rw [e, Nat.add_mul_div_left _ _ (Nat.pow_pos (by lia)), Nat.add_mul_mod_self_right]
  · by_cases h2 : i = k
    · subst h2
      rw [if_pos rfl, Nat.add_mul_div_right _ _ hpos, Nat.div_eq_of_lt ht, Nat.zero_add, Nat.mod_eq_of_lt hd]
    · rw [if_neg h2]
      have hlt : t + d * p ^ k < p ^ i := by
        have : t + d * p ^ k < p ^ (k + 1) := by
          rw [Nat.pow_succ]
          calc t + d * p ^ k < p ^ k + d * p ^ k := by lia
            _ = (d + 1) * p ^ k := by rw [Nat.add_mul]; lia
            _ ≤ p * p ^ k := Nat.mul_le_mul_right _ hd
            _ = p ^ k * p := Nat.mul_comm _ _
        exact Nat.lt_of_lt_of_le this (Nat.pow_le_pow_right (by lia) (by lia))
      rw [Nat.div_eq_of_lt hlt, Nat.div_eq_of_lt (Nat.lt_of_lt_of_le ht (Nat.pow_le_pow_right (by lia) (by lia)))]
theorem put_lt {p : Nat} {k t d : Nat} (ht : t < p ^ k) (hd : d < p) : t + d * p ^ k < p ^ (k + 1) := by
  rw [Nat.pow_succ]
  calc t + d * p ^ k < p ^ k + d * p ^ k := by lia
    _ = (d + 1) * p ^ k := by rw [Nat.add_mul]; lia
    _ ≤ p * p ^ k := Nat.mul_le_mul_right _ hd
    _ = p ^ k * p := Nat.mul_comm _ _

/-! the ring -/
noncomputable def shiftF (f : Nat → Nat) : Nat → Nat := fun i => if i = 0 then 0 else f (i - 1)
noncomputable def liftF (m : Nat) (t f : Nat → Nat) : Nat → Nat := fun i => if i < m then shiftF f i + f (m - 1) * t i else 0
noncomputable def tn (m : Nat) (t : Nat → Nat) : Nat → (Nat → Nat) → (Nat → Nat) → Nat → Nat
  | 0, _, _ => fun _ => 0
  | k + 1, f, y => fun i => f 0 * y i + tn m t k (fun j => f (j + 1)) (liftF m t y) i
/-- the row brought back from place q -/
noncomputable def stepF (m : Nat) (t : Nat → Nat) (q : Nat) (f : Nat → Nat) : Nat → Nat := fun i => f i + if q - m ≤ i ∧ i < q then f q * t (i - (q - m)) else 0
noncomputable def redF (m : Nat) (t : Nat → Nat) : Nat → (Nat → Nat) → (Nat → Nat)
  | 0, f => f
  | j + 1, f => redF m t j (stepF m t (m + j) f)
/-- the product of the first k of f and y -/
noncomputable def convF : Nat → (Nat → Nat) → (Nat → Nat) → Nat → Nat
  | 0, _, _ => fun _ => 0
  | k + 1, f, y => fun i => f 0 * y i + shiftF (convF k (fun j => f (j + 1)) y) i
section
variable {m : Nat} {t : Nat → Nat}
theorem stepF_lin (q c : Nat) (f g : Nat → Nat) : stepF m t q (fun i => c * f i + g i) = fun i => c * stepF m t q f i + stepF m t q g i := by
  funext i
  unfold stepF
  split
  · dsimp only; rw [Nat.mul_add, Nat.add_mul]; ac_rfl
  · simp
theorem redF_lin (c : Nat) : ∀ (j : Nat) (f g : Nat → Nat), redF m t j (fun i => c * f i + g i) = fun i => c * redF m t j f i + redF m t j g i
  | 0, f, g => rfl
  | j + 1, f, g => by
    show redF m t j (stepF m t (m + j) fun i => c * f i + g i) = _
    rw [stepF_lin, redF_lin c j]
    rfl
theorem stepF_shift {q : Nat} (hq : m ≤ q) (f : Nat → Nat) : stepF m t (q + 1) (shiftF f) = shiftF (stepF m t q f) := by
  funext i
  unfold stepF shiftF
  by_cases h0 : i = 0
  · subst h0
    rw [if_pos rfl, if_pos rfl]
    rw [if_neg (by lia)]
  · rw [if_neg h0, if_neg h0, if_neg (show ¬ q + 1 = 0 by lia)]
    congr 1
    by_cases h1 : q - m ≤ i - 1 ∧ i - 1 < q
    · rw [if_pos h1, if_pos (by lia), Nat.add_sub_cancel]
      congr 2
      lia
    · rw [if_neg h1, if_neg (by lia)]
theorem redF_shift (hm : 1 ≤ m) : ∀ (j : Nat) (f : Nat → Nat) (i : Nat), i < m → redF m t (j + 1) (shiftF f) i = liftF m t (redF m t j f) i
  | 0, f, i, hi => by
    show stepF m t (m + 0) (shiftF f) i = liftF m t f i
    unfold stepF liftF
    rw [if_pos hi, if_pos (by lia)]
    congr 1
    show shiftF f (m + 0) * t (i - (m + 0 - m)) = _
    unfold shiftF
    rw [if_neg (by lia)]
    simp
  | j + 1, f, i, hi => by
    show redF m t (j + 1) (stepF m t (m + (j + 1)) (shiftF f)) i = liftF m t (redF m t j (stepF m t (m + j) f)) i
    rw [← redF_shift hm j (stepF m t (m + j) f) i hi, ← stepF_shift (by lia)]
    rfl
theorem redF_low : ∀ (j : Nat) (f : Nat → Nat), (∀ q, m ≤ q → f q = 0) → redF m t j f = f
  | 0, f, _ => rfl
  | j + 1, f, h => by
    have e : stepF m t (m + j) f = f := by
      funext i
      unfold stepF
      rw [h (m + j) (by lia)]
      simp
    show redF m t j (stepF m t (m + j) f) = f
    rw [e]
    exact redF_low j f h
theorem liftF_lin (c : Nat) (f g : Nat → Nat) : liftF m t (fun i => c * f i + g i) = fun i => c * liftF m t f i + liftF m t g i := by
  funext i
  unfold liftF shiftF
  split
  · split
    · simp [Nat.mul_add, Nat.add_mul, Nat.mul_assoc]
    · dsimp only; rw [Nat.mul_add, Nat.add_mul]; ac_rfl
  · simp
theorem tn_lift : ∀ (k : Nat) (f y : Nat → Nat), liftF m t (tn m t k f y) = tn m t k f (liftF m t y)
  | 0, f, y => by
    funext i
    show liftF m t (fun _ => 0) i = 0
    unfold liftF shiftF
    split
    · split <;> simp
    · rfl
  | k + 1, f, y => by
    show liftF m t (fun i => f 0 * y i + tn m t k (fun j => f (j + 1)) (liftF m t y) i) = _
    rw [liftF_lin, tn_lift k]
    rfl
/-- THE PRODUCT: brought back from above, it is the sum of the lifted -/
theorem red_conv (hm : 1 ≤ m) : ∀ (k : Nat) (f y : Nat → Nat), (∀ q, m ≤ q → y q = 0) → ∀ i, i < m → redF m t k (convF (k + 1) f y) i = tn m t (k + 1) f y i
  | 0, f, y, hy, i, hi => by
    show f 0 * y i + shiftF (fun _ => 0) i = f 0 * y i + 0
    unfold shiftF
    split <;> rfl
  | k + 1, f, y, hy, i, hi => by
    show redF m t (k + 1) (fun i => f 0 * y i + shiftF (convF (k + 1) (fun j => f (j + 1)) y) i) i = f 0 * y i + tn m t (k + 1) (fun j => f (j + 1)) (liftF m t y) i
    rw [redF_lin]
    show f 0 * redF m t (k + 1) y i + redF m t (k + 1) (shiftF (convF (k + 1) (fun j => f (j + 1)) y)) i = _
    rw [redF_low (k + 1) y hy, redF_shift hm k _ i hi]
    congr 1
    have e : ∀ i, i < m → redF m t k (convF (k + 1) (fun j => f (j + 1)) y) i = tn m t (k + 1) (fun j => f (j + 1)) y i := fun i hi => red_conv hm k _ y hy i hi
    rw [← tn_lift]
    unfold liftF shiftF
    rw [if_pos hi, if_pos hi, e (m - 1) (by lia)]
    by_cases h0 : i = 0
    · rw [if_pos h0, if_pos h0]
    · rw [if_neg h0, if_neg h0, e (i - 1) (by lia)]
end

/-! by rests -/
theorem tn_zero {m : Nat} {t : Nat → Nat} : ∀ (k : Nat) (f y : Nat → Nat) (i : Nat), (∀ j, f j = 0) → tn m t k f y i = 0
  | 0, _, _, _, _ => rfl
  | k + 1, f, y, i, h => by
    show f 0 * y i + tn m t k (fun j => f (j + 1)) (liftF m t y) i = 0
    rw [h 0, tn_zero k _ _ i fun j => h (j + 1)]
    simp
theorem add_mod2 {p a b c d : Nat} (h1 : a % p = c % p) (h2 : b % p = d % p) : (a + b) % p = (c + d) % p := by rw [Nat.add_mod, h1, h2, ← Nat.add_mod]
theorem mul_mod2 {p a b c d : Nat} (h1 : a % p = c % p) (h2 : b % p = d % p) : (a * b) % p = (c * d) % p := by rw [Nat.mul_mod, h1, h2, ← Nat.mul_mod]
theorem liftF_congr {p m : Nat} (hm : 1 ≤ m) {t y y' : Nat → Nat} (h : ∀ i, i < m → y i % p = y' i % p) (i : Nat) : liftF m t y i % p = liftF m t y' i % p := by
  unfold liftF shiftF
  split
  · refine add_mod2 ?_ (mul_mod2 (h (m - 1) (by lia)) rfl)
    split
    · rfl
    · exact h (i - 1) (by lia)
  · rfl
theorem tn_congr {p m : Nat} (hm : 1 ≤ m) {t : Nat → Nat} : ∀ (k : Nat) (f y y' : Nat → Nat), (∀ i, i < m → y i % p = y' i % p) → ∀ i, i < m → tn m t k f y i % p = tn m t k f y' i % p
  | 0, _, _, _, _, _, _ => rfl
  | k + 1, f, y, y', h, i, hi => add_mod2 (mul_mod2 rfl (h i hi)) (tn_congr hm k _ _ _ (fun j _ => liftF_congr hm h j) i hi)
theorem dg_fun_succ (p x : Nat) : (fun j => dg p (j + 1) x) = fun j => dg p j (x / p) := by funext j; exact dg_succ p j x
theorem dg_mod (p i x : Nat) : dg p i x % p = dg p i x := by unfold dg; exact Nat.mod_mod _ _
/-- digits of x % p ^ k -/
theorem dg_low {p : Nat} (hp : 2 ≤ p) (k i x : Nat) : dg p i (x % p ^ k) = if i < k then dg p i x else 0 := by
  by_cases h : i < k
  · rw [if_pos h]
    unfold dg
    obtain ⟨c, rfl⟩ : ∃ c, k = i + (c + 1) := ⟨k - i - 1, by lia⟩
    rw [Nat.pow_add, Nat.mod_mul_right_div_self, Nat.pow_succ, Nat.mul_comm (p ^ c) p, Nat.mod_mul_right_mod]
  · rw [if_neg h]
    exact dg_of_lt hp (Nat.mod_lt _ (Nat.pow_pos (by lia))) (by lia)
/-- digits of x * p -/
theorem dg_up {p : Nat} (hp : 2 ≤ p) (i x : Nat) : dg p i (x * p) = if i = 0 then 0 else dg p (i - 1) x := by
  cases i with
  | zero => rw [dg_zero, if_pos rfl, Nat.mul_mod_left]
  | succ i => rw [if_neg (by lia), dg_succ, Nat.mul_div_cancel _ (by lia)]; rfl
/-- the last digit -/
theorem dg_last {p m x : Nat} (hp : 2 ≤ p) (hm : 1 ≤ m) (h : x < p ^ m) : x / p ^ (m - 1) = dg p (m - 1) x := by
  unfold dg
  rw [Nat.mod_eq_of_lt]
  obtain ⟨c, rfl⟩ : ∃ c, m = c + 1 := ⟨m - 1, by lia⟩
  exact Nat.div_lt_of_lt_mul (by simpa [Nat.pow_succ] using h)
end Dg

end
section
-- text: MathB
set_option linter.all false
namespace Dg
/-! numbers of m digits -/
noncomputable def ofF (p : Nat) : Nat → (Nat → Nat) → Nat
  | 0, _ => 0
  | m + 1, f => f 0 % p + p * ofF p m (fun j => f (j + 1))
theorem ofF_lt {p : Nat} (hp : 2 ≤ p) : ∀ (m : Nat) (f : Nat → Nat), ofF p m f < p ^ m
  | 0, f => by simp [ofF]
  | m + 1, f => by
    have h := ofF_lt hp m fun j => f (j + 1)
    have h1 : f 0 % p < p := Nat.mod_lt _ (by lia)
    show f 0 % p + p * ofF p m (fun j => f (j + 1)) < p ^ (m + 1)
    calc f 0 % p + p * ofF p m (fun j => f (j + 1)) < p + p * ofF p m (fun j => f (j + 1)) := by lia
      _ = p * (ofF p m (fun j => f (j + 1)) + 1) := by rw [Nat.mul_add, Nat.mul_one, Nat.add_comm]
      _ ≤ p * p ^ m := Nat.mul_le_mul_left _ h
      _ = p ^ (m + 1) := by rw [Nat.pow_succ, Nat.mul_comm]
theorem dg_ofF {p : Nat} (hp : 2 ≤ p) : ∀ (m : Nat) (f : Nat → Nat) (i : Nat), dg p i (ofF p m f) = if i < m then f i % p else 0
  | 0, f, i => by simp [ofF, dg_nil]
  | m + 1, f, i => by
    have h1 : f 0 % p < p := Nat.mod_lt _ (by lia)
    cases i with
    | zero =>
      rw [if_pos (by lia), dg_zero]
      show (f 0 % p + p * ofF p m (fun j => f (j + 1))) % p = f 0 % p
      rw [Nat.add_mul_mod_self_left, Nat.mod_mod]
    | succ i =>
      rw [dg_succ]
      show dg p i ((f 0 % p + p * ofF p m (fun j => f (j + 1))) / p) = _
      rw [Nat.add_mul_div_left _ _ (by lia), Nat.div_eq_of_lt h1, Nat.zero_add, dg_ofF hp m]
      by_cases h : i < m
      · rw [if_pos h, if_pos (by lia)]
      · rw [if_neg h, if_neg (by lia)]
theorem ext_lt {p : Nat} (hp : 2 ≤ p) {m a b : Nat} (ha : a < p ^ m) (hb : b < p ^ m) (h : ∀ i, i < m → dg p i a = dg p i b) : a = b :=
  ext hp fun i => by
    by_cases hi : i < m
    · exact h i hi
    · rw [dg_of_lt hp ha (by lia), dg_of_lt hp hb (by lia)]
noncomputable abbrev dgs (p x : Nat) : Nat → Nat := fun i => dg p i x
/-! the things of a field -/
noncomputable def up (p m t x : Nat) : Nat := ofF p m (liftF m (dgs p t) (dgs p x))
noncomputable def mulN (p m t : Nat) : Nat → Nat → Nat → Nat
  | 0, _, _ => 0
  | k + 1, x, y => ofF p m fun i => x % p * dg p i y + dg p i (mulN p m t k (x / p) (up p m t y))
noncomputable def mul (p m t x y : Nat) : Nat := mulN p m t m x y
section
variable {p m t : Nat} (hp : 2 ≤ p) (hm : 1 ≤ m)
include hp hm
theorem mulN_dg : ∀ (k x y i : Nat), i < m → dg p i (mulN p m t k x y) = tn m (dgs p t) k (dgs p x) (dgs p y) i % p
  | 0, x, y, i, hi => by show dg p i 0 = 0 % p; rw [dg_nil]; simp
  | k + 1, x, y, i, hi => by
    show dg p i (ofF p m fun i => x % p * dg p i y + dg p i (mulN p m t k (x / p) (up p m t y))) = _
    rw [dg_ofF hp, if_pos hi]
    show _ = (dg p 0 x * dg p i y + tn m (dgs p t) k (fun j => dg p (j + 1) x) (liftF m (dgs p t) (dgs p y)) i) % p
    rw [mulN_dg k _ _ i hi, dg_zero]
    refine add_mod2 rfl ?_
    rw [Nat.mod_mod, dg_fun_succ]
    refine tn_congr hm k _ _ _ (fun j hj => ?_) i hi
    show dg p j (up p m t y) % p = _
    unfold up
    rw [dg_ofF hp, if_pos hj, Nat.mod_mod]
theorem mulN_lt : ∀ (k x y : Nat), mulN p m t k x y < p ^ m
  | 0, x, y => Nat.pow_pos (by lia)
  | k + 1, x, y => ofF_lt hp _ _
theorem mul_lt (x y : Nat) : mul p m t x y < p ^ m := mulN_lt hp hm _ _ _
theorem mul_dg (x y i : Nat) (hi : i < m) : dg p i (mul p m t x y) = tn m (dgs p t) m (dgs p x) (dgs p y) i % p := mulN_dg hp hm m x y i hi
theorem mul_of {x y r : Nat} (hr : r < p ^ m) (h : ∀ i, i < m → dg p i r = tn m (dgs p t) m (dgs p x) (dgs p y) i % p) : r = mul p m t x y :=
  ext_lt hp hr (mul_lt hp hm x y) fun i hi => by rw [h i hi, mul_dg hp hm x y i hi]
end
/-! tn is linear, and commutes -/
section
variable {m : Nat} {t : Nat → Nat}
theorem tn_lin (c : Nat) : ∀ (k : Nat) (f y z : Nat → Nat), tn m t k f (fun i => c * y i + z i) = fun i => c * tn m t k f y i + tn m t k f z i
  | 0, f, y, z => by funext i; rfl
  | k + 1, f, y, z => by
    funext i
    show f 0 * (c * y i + z i) + tn m t k (fun j => f (j + 1)) (liftF m t fun i => c * y i + z i) i = c * (f 0 * y i + tn m t k (fun j => f (j + 1)) (liftF m t y) i) + (f 0 * z i + tn m t k (fun j => f (j + 1)) (liftF m t z) i)
    rw [liftF_lin, tn_lin c k]
    dsimp only
    rw [Nat.mul_add, Nat.mul_add, Nat.mul_left_comm]
    lia
theorem tn_comm : ∀ (k l : Nat) (f g y : Nat → Nat), tn m t k f (tn m t l g y) = tn m t l g (tn m t k f y)
  | 0, l, f, g, y => by
    show (fun _ => 0) = tn m t l g (fun _ => 0)
    have h := tn_lin (m := m) (t := t) 0 l g (fun _ => 0) (fun _ => 0)
    funext i
    have h2 := tn_lin (m := m) (t := t) 1 l g (fun _ => 0) (fun _ => 0)
    have h3 := congrFun h2 i
    simp at h3
    exact h3.symm
  | k + 1, l, f, g, y => by
    show (fun i => f 0 * tn m t l g y i + tn m t k (fun j => f (j + 1)) (liftF m t (tn m t l g y)) i) = tn m t l g (fun i => f 0 * y i + tn m t k (fun j => f (j + 1)) (liftF m t y) i)
    rw [tn_lift, tn_comm k, tn_lin]
noncomputable def unitF (s : Nat) : Nat → Nat := fun i => if i = s then 1 else 0
theorem lift_unit {s : Nat} (h : s + 1 < m) : liftF m t (unitF s) = unitF (s + 1) := by
  funext i
  unfold liftF shiftF unitF
  rw [if_neg (show ¬ m - 1 = s by lia), Nat.zero_mul, Nat.add_zero]
  by_cases hi : i < m
  · rw [if_pos hi]
    by_cases h0 : i = 0
    · rw [if_pos h0, if_neg (by lia)]
    · rw [if_neg h0]
      by_cases hs : i - 1 = s
      · rw [if_pos hs, if_pos (by lia)]
      · rw [if_neg hs, if_neg (by lia)]
  · rw [if_neg hi, if_neg (by lia)]
theorem tn_unit : ∀ (k s : Nat) (f : Nat → Nat) (i : Nat), s + k ≤ m → tn m t k f (unitF s) i = if s ≤ i ∧ i < s + k then f (i - s) else 0
  | 0, s, f, i, _ => by rw [if_neg (by lia)]; rfl
  | k + 1, s, f, i, h => by
    show f 0 * unitF s i + tn m t k (fun j => f (j + 1)) (liftF m t (unitF s)) i = _
    cases k with
    | zero =>
      show f 0 * unitF s i + 0 = _
      unfold unitF
      by_cases hi : i = s
      · rw [if_pos hi, if_pos (by lia)]; subst hi; simp
      · rw [if_neg hi, if_neg (by lia)]; simp
    | succ k =>
      rw [lift_unit (by lia), tn_unit (k + 1) (s + 1) _ i (by lia)]
      unfold unitF
      by_cases hi : i = s
      · subst hi; rw [if_pos rfl, if_neg (by lia), if_pos (by lia)]; simp
      · rw [if_neg hi]
        by_cases h2 : s + 1 ≤ i ∧ i < s + 1 + (k + 1)
        · rw [if_pos h2, if_pos (by lia)]
          show f 0 * 0 + f (i - (s + 1) + 1) = f (i - s)
          rw [Nat.mul_zero, Nat.zero_add]; congr 1; lia
        · rw [if_neg h2, if_neg (by lia)]; simp
theorem tn_one (f : Nat → Nat) (i : Nat) (hi : i < m) : tn m t m f (unitF 0) i = f i := by
  rw [tn_unit m 0 f i (by lia), if_pos (by lia), Nat.sub_zero]
end
/-! the laws of a field's things -/
section
variable {p m t : Nat} (hp : 2 ≤ p) (hm : 1 ≤ m)
include hp hm
theorem mul_comm (x y : Nat) : mul p m t x y = mul p m t y x := by
  refine ext_lt hp (mul_lt hp hm _ _) (mul_lt hp hm _ _) fun i hi => ?_
  rw [mul_dg hp hm _ _ i hi, mul_dg hp hm _ _ i hi]
  have h1 := tn_congr (p := p) hm (t := dgs p t) m (dgs p x) (dgs p y) (tn m (dgs p t) m (dgs p y) (unitF 0)) (fun j hj => by rw [tn_one _ j hj]) i hi
  have h2 := tn_congr (p := p) hm (t := dgs p t) m (dgs p y) (dgs p x) (tn m (dgs p t) m (dgs p x) (unitF 0)) (fun j hj => by rw [tn_one _ j hj]) i hi
  rw [h1, h2, tn_comm]
theorem mul_left_comm (x y z : Nat) : mul p m t x (mul p m t y z) = mul p m t y (mul p m t x z) := by
  refine ext_lt hp (mul_lt hp hm _ _) (mul_lt hp hm _ _) fun i hi => ?_
  rw [mul_dg hp hm _ _ i hi, mul_dg hp hm _ _ i hi]
  have h1 := tn_congr (p := p) hm (t := dgs p t) m (dgs p x) (dgs p (mul p m t y z)) (tn m (dgs p t) m (dgs p y) (dgs p z)) (fun j hj => by show dg p j _ % p = _; rw [mul_dg hp hm _ _ j hj, Nat.mod_mod]) i hi
  have h2 := tn_congr (p := p) hm (t := dgs p t) m (dgs p y) (dgs p (mul p m t x z)) (tn m (dgs p t) m (dgs p x) (dgs p z)) (fun j hj => by show dg p j _ % p = _; rw [mul_dg hp hm _ _ j hj, Nat.mod_mod]) i hi
  rw [h1, h2, tn_comm]
theorem mul_assoc (x y z : Nat) : mul p m t (mul p m t x y) z = mul p m t x (mul p m t y z) := by
  rw [mul_comm hp hm _ z, mul_left_comm hp hm z x y, mul_comm hp hm z y]
theorem one_lt : 1 < p ^ m := by
  have : p ^ 1 ≤ p ^ m := Nat.pow_le_pow_right (by lia) hm
  rw [Nat.pow_one] at this; lia
theorem dg_one (i : Nat) : dg p i 1 = unitF 0 i := by
  unfold unitF
  cases i with
  | zero => rw [dg_zero, if_pos rfl, Nat.mod_eq_of_lt (by lia)]
  | succ i => rw [if_neg (by lia), dg_succ, Nat.div_eq_of_lt (by lia), dg_nil]
theorem mul_one {x : Nat} (hx : x < p ^ m) : mul p m t x 1 = x := by
  refine ext_lt hp (mul_lt hp hm _ _) hx fun i hi => ?_
  rw [mul_dg hp hm _ _ i hi, show dgs p 1 = unitF 0 from funext fun i => dg_one hp hm i, tn_one _ i hi, dg_mod]
theorem one_mul {x : Nat} (hx : x < p ^ m) : mul p m t 1 x = x := by rw [mul_comm hp hm, mul_one hp hm hx]
theorem zero_mul (x : Nat) : mul p m t 0 x = 0 := by
  refine ext_lt hp (mul_lt hp hm _ _) (Nat.pow_pos (by lia)) fun i hi => ?_
  rw [mul_dg hp hm _ _ i hi, tn_zero _ _ _ _ (fun j => dg_nil p j), dg_nil]; simp
theorem mul_zero (x : Nat) : mul p m t x 0 = 0 := by rw [mul_comm hp hm, zero_mul hp hm]
/-! powers -/
noncomputable def pw (p m t x : Nat) : Nat → Nat
  | 0 => 1
  | n + 1 => mul p m t (pw p m t x n) x
theorem pw_lt (x n : Nat) : pw p m t x n < p ^ m := by
  cases n with
  | zero => exact one_lt hp hm
  | succ n => exact mul_lt hp hm _ _
theorem pw_add (x a : Nat) : ∀ b, pw p m t x (a + b) = mul p m t (pw p m t x a) (pw p m t x b)
  | 0 => (mul_one hp hm (pw_lt hp hm x a)).symm
  | b + 1 => by
    show mul p m t (pw p m t x (a + b)) x = mul p m t (pw p m t x a) (mul p m t (pw p m t x b) x)
    rw [pw_add x a b, mul_assoc hp hm]
theorem pw_one {x : Nat} (hx : x < p ^ m) : pw p m t x 1 = x := one_mul hp hm hx
theorem pw_mul (x a : Nat) : ∀ b, pw p m t x (a * b) = pw p m t (pw p m t x a) b
  | 0 => rfl
  | b + 1 => by
    rw [Nat.mul_succ, pw_add hp hm, pw_mul x a b]; rfl
theorem one_pw : ∀ n, pw p m t 1 n = 1
  | 0 => rfl
  | n + 1 => by
    show mul p m t (pw p m t 1 n) 1 = 1
    rw [one_pw n, mul_one hp hm (one_lt hp hm)]
end
end Dg

end
section
-- text: MathC
set_option linter.all false
set_option maxRecDepth 100000
namespace Dg
/-- for each p and m, and each top (of m 1: one for all): a thing whose powers are all things but 0, and 0; or two things but 0 whose product is 0 -/
noncomputable def certs : List (Nat × Nat × List (Nat × Nat)) := [(2, 1, [(1, 0)]), (2, 2, [(2, 2), (3, 3), (2, 3), (2, 0)]), (2, 3, [(2, 4), (3, 7), (2, 5), (2, 0), (2, 6), (2, 0), (2, 7), (3, 5)]), (2, 4, [(2, 8), (3, 15), (2, 9), (2, 0), (2, 10), (7, 7), (2, 11), (3, 13), (2, 12), (2, 0), (2, 13), (3, 9), (2, 14), (3, 11), (2, 15), (3, 0)]), (3, 1, [(2, 0)]), (3, 2, [(3, 3), (4, 5), (4, 0), (3, 5), (3, 0), (4, 4), (3, 4), (3, 0), (5, 5)]), (3, 3, [(3, 9), (5, 13), (4, 16), (3, 11), (6, 0), (3, 0), (3, 10), (4, 17), (5, 14), (3, 15), (4, 14), (3, 0), (3, 17), (4, 0), (4, 13), (3, 16), (5, 10), (3, 0), (3, 12), (5, 0), (5, 17), (3, 14), (4, 11), (3, 0), (3, 13), (4, 0), (4, 10)]), (5, 1, [(2, 0)]), (5, 2, [(5, 5), (6, 9), (7, 0), (6, 0), (7, 8), (5, 9), (7, 7), (6, 8), (5, 0), (6, 0), (5, 8), (6, 0), (5, 0), (6, 7), (9, 9), (5, 7), (8, 0), (5, 0), (8, 9), (6, 6), (5, 6), (8, 8), (7, 9), (5, 0), (7, 0)]), (7, 1, [(3, 0)]), (11, 1, [(2, 0)]), (13, 1, [(2, 0)]), (2, 5, [(2, 16), (3, 31), (2, 17), (7, 13), (2, 18), (2, 0), (2, 19), (3, 29), (2, 20), (2, 0), (2, 21), (3, 25), (2, 22), (3, 27), (2, 23), (2, 0), (2, 24), (7, 11), (2, 25), (3, 17), (2, 26), (3, 19), (2, 27), (2, 0), (2, 28), (3, 23), (2, 29), (2, 0), (2, 30), (2, 0), (2, 31), (3, 21)]), (2, 6, [(2, 32), (3, 63), (2, 33), (2, 0), (2, 34), (11, 11), (2, 35), (3, 61), (2, 36), (3, 0), (2, 37), (3, 57), (2, 38), (3, 59), (2, 39), (7, 25), (2, 40), (13, 13), (2, 41), (3, 49), (2, 42), (3, 51), (2, 43), (3, 0), (2, 44), (3, 55), (2, 45), (2, 0), (2, 46), (7, 31), (2, 47), (3, 53), (2, 48), (2, 0), (2, 49), (3, 33), (2, 50), (3, 35), (2, 51), (2, 0), (2, 52), (3, 39), (2, 53), (7, 21), (2, 54), (2, 0), (2, 55), (3, 37), (2, 56), (3, 47), (2, 57), (2, 0), (2, 58), (3, 0), (2, 59), (3, 45), (2, 60), (7, 19), (2, 61), (3, 41), (2, 62), (3, 43), (2, 63), (11, 13)]), (7, 2, [(7, 7), (8, 13), (10, 11), (8, 0), (9, 12), (8, 0), (9, 0), (7, 13), (9, 0), (8, 12), (9, 0), (7, 0), (10, 10), (9, 11), (7, 12), (9, 10), (7, 0), (8, 11), (7, 0), (8, 0), (13, 13), (7, 11), (8, 0), (7, 0), (9, 9), (8, 10), (12, 13), (8, 0), (7, 10), (11, 0), (7, 0), (12, 12), (11, 13), (8, 9), (11, 0), (7, 9), (11, 12), (7, 0), (10, 13), (7, 0), (10, 0), (8, 8), (7, 8), (10, 0), (9, 13), (10, 0), (7, 0), (11, 11), (10, 12)]), (61, 1, [(2, 0)]), (17, 1, [(3, 0)]), (19, 1, [(2, 0)]), (23, 1, [(5, 0)]), (29, 1, [(2, 0)]), (31, 1, [(3, 0)]), (37, 1, [(2, 0)]), (41, 1, [(6, 0)]), (43, 1, [(3, 0)]), (47, 1, [(5, 0)]), (53, 1, [(2, 0)]), (59, 1, [(2, 0)])]
noncomputable def menu : List (Nat × Nat) := certs.map fun c => (c.1, c.2.1)
noncomputable def pwsFrom (p m t b : Nat) : Nat → Nat → List Nat
  | _, 0 => []
  | x, n + 1 => x :: pwsFrom p m t b (mul p m t x b) n
noncomputable def lowB (p m t b : Nat) : Bool := ((pwsFrom p m t b 1 (p ^ m - 1)).drop 1).contains 1
noncomputable def okPrim (p m t b : Nat) : Bool := (List.range b).all (fun c => c == 0 || lowB p m t c) && !lowB p m t b && decide (0 < b) && (List.range (p ^ m)).all (fun y => y == 0 || (pwsFrom p m t b 1 (p ^ m - 1)).contains y) && (pwsFrom p m t b 1 (p ^ m)).getLast? == some 1 && decide (b < p ^ m)
noncomputable def okRow (p m t : Nat) (c : Nat × Nat) : Bool := if c.2 = 0 then okPrim p m t c.1 else decide (0 < c.1 ∧ c.1 < p ^ m ∧ c.1 < p ^ (m / 2 + 1) ∧ c.2 < p ^ m) && mul p m t c.1 c.2 == 0
noncomputable def okRows (p m : Nat) : Nat → List (Nat × Nat) → Bool
  | _, [] => true
  | t, c :: cs => okRow p m t c && okRows p m (t + 1) cs
noncomputable def okAll : Bool := certs.all fun c => okRows c.1 c.2.1 0 c.2.2
theorem all_ok : okAll = true := by decide +kernel
theorem pws_get {p m t b : Nat} : ∀ (n k i : Nat), i < n → (pwsFrom p m t b (pw p m t b k) n)[i]? = some (pw p m t b (k + i))
  | 0, k, i, h => absurd h (Nat.not_lt_zero _)
  | n + 1, k, 0, h => rfl
  | n + 1, k, i + 1, h => by
    show (pwsFrom p m t b (pw p m t b (k + 1)) n)[i]? = _
    rw [pws_get n (k + 1) i (by lia), show k + 1 + i = k + (i + 1) by lia]
theorem pws_len {p m t b : Nat} : ∀ (n x : Nat), (pwsFrom p m t b x n).length = n
  | 0, x => rfl
  | n + 1, x => by show (pwsFrom p m t b _ n).length + 1 = _; rw [pws_len n]
/-- all things but 0 are powers of b -/
structure Prim (p m t b : Nat) : Prop where
  lt : b < p ^ m
  round : pw p m t b (p ^ m - 1) = 1
  all : ∀ y, 0 < y → y < p ^ m → ∃ i, i < p ^ m - 1 ∧ pw p m t b i = y
  pos : 0 < b
  min : ∀ i, 0 < i → i < p ^ m - 1 → pw p m t b i ≠ 1
  low : ∀ c, 0 < c → c < b → ∃ i, 0 < i ∧ i < p ^ m - 1 ∧ pw p m t c i = 1
theorem low_of {p m t b : Nat} : lowB p m t b = true ↔ ∃ i, 0 < i ∧ i < p ^ m - 1 ∧ pw p m t b i = 1 := by
  unfold lowB
  rw [List.contains_iff_mem, List.mem_iff_getElem?]
  constructor
  · rintro ⟨j, h⟩
    rw [List.getElem?_drop] at h
    have hl : 1 + j < p ^ m - 1 := by have := (List.getElem?_eq_some_iff.mp h).1; rw [pws_len] at this; exact this
    have g := pws_get (p := p) (m := m) (t := t) (b := b) (p ^ m - 1) 0 (1 + j) hl
    rw [show pw p m t b 0 = 1 from rfl, h] at g
    exact ⟨1 + j, by lia, hl, by simpa using (Option.some.inj g).symm⟩
  · rintro ⟨i, h0, hi, e⟩
    refine ⟨i - 1, ?_⟩
    rw [List.getElem?_drop, show 1 + (i - 1) = i by lia]
    have g := pws_get (p := p) (m := m) (t := t) (b := b) (p ^ m - 1) 0 i hi
    rw [show pw p m t b 0 = 1 from rfl, Nat.zero_add, e] at g
    exact g
theorem prim_of_ok {p m t b : Nat} (hq : 0 < p ^ m) (h : okPrim p m t b = true) : Prim p m t b := by
  unfold okPrim at h
  simp only [Bool.and_eq_true] at h
  obtain ⟨⟨⟨⟨⟨k1, k2⟩, k3⟩, h1⟩, h2⟩, h3⟩ := h
  refine ⟨of_decide_eq_true h3, ?_, fun y hy hy2 => ?_, of_decide_eq_true k3, fun i hi hi2 e => ?_, fun c hc hc2 => ?_⟩
  · have e : (pwsFrom p m t b 1 (p ^ m)).getLast? = some 1 := by simpa using h2
    rw [List.getLast?_eq_getElem?, pws_len] at e
    have g := pws_get (p := p) (m := m) (t := t) (b := b) (p ^ m) 0 (p ^ m - 1) (by lia)
    rw [show pw p m t b 0 = 1 from rfl] at g
    rw [g] at e
    simpa using Option.some.inj e
  · rw [List.all_eq_true] at h1
    have g := h1 y (List.mem_range.mpr hy2)
    rw [Bool.or_eq_true] at g
    rcases g with g | g
    · have : y = 0 := by simpa using g
      lia
    · have g : y ∈ pwsFrom p m t b 1 (p ^ m - 1) := List.contains_iff_mem.mp g
      obtain ⟨i, hi, e⟩ := List.mem_iff_getElem.mp g
      rw [pws_len] at hi
      have g2 := pws_get (p := p) (m := m) (t := t) (b := b) (p ^ m - 1) 0 i hi
      rw [show pw p m t b 0 = 1 from rfl, List.getElem?_eq_getElem (by rw [pws_len]; exact hi), e] at g2
      exact ⟨i, hi, by simpa using (Option.some.inj g2).symm⟩
  · have := low_of.mpr ⟨i, hi, hi2, e⟩
    rw [this] at k2
    cases k2
  · have g := List.all_eq_true.mp k1 c (List.mem_range.mpr hc2)
    rw [Bool.or_eq_true] at g
    rcases g with g | g
    · have : c = 0 := by simpa using g
      lia
    · exact low_of.mp g
theorem okRows_get {p m : Nat} : ∀ (cs : List (Nat × Nat)) (t i : Nat) (c : Nat × Nat), okRows p m t cs = true → cs[i]? = some c → okRow p m (t + i) c = true
  | [], t, i, c, _, h => by simp at h
  | d :: cs, t, 0, c, h, e => by
    have h : (okRow p m t d && okRows p m (t + 1) cs) = true := h
    rw [Bool.and_eq_true] at h
    cases e
    exact h.1
  | d :: cs, t, i + 1, c, h, e => by
    have h : (okRow p m t d && okRows p m (t + 1) cs) = true := h
    rw [Bool.and_eq_true] at h
    have g := okRows_get cs (t + 1) i c h.2 (by simpa using e)
    rw [show t + (i + 1) = t + 1 + i by lia]; exact g
theorem mul_top1 (p t x y : Nat) : mul p 1 t x y = mul p 1 0 x y := rfl
theorem pw_top1 (p t x : Nat) : ∀ n, pw p 1 t x n = pw p 1 0 x n
  | 0 => rfl
  | n + 1 => by
    show mul p 1 t (pw p 1 t x n) x = mul p 1 0 (pw p 1 0 x n) x
    rw [pw_top1 p t x n, mul_top1]
/-- the fields that are drawn -/
structure Good (p m t : Nat) : Prop where
  mem : (p, m) ∈ menu
  top : t < p ^ m
  no : m = 1 ∨ ∀ x y, 0 < x → x < p ^ m → x < p ^ (m / 2 + 1) → 0 < y → y < p ^ m → mul p m t x y ≠ 0
noncomputable def certLens : Bool := certs.all fun c => decide (2 ≤ c.1 ∧ 1 ≤ c.2.1 ∧ c.1 ^ c.2.1 ≤ 64) && (if c.2.1 = 1 then decide (c.2.2.length = 1) && c.2.2.all (fun d => d.2 == 0) else decide (c.2.2.length = c.1 ^ c.2.1))
theorem cert_lens : certLens = true := by decide +kernel
theorem menu_small {p m : Nat} (h : (p, m) ∈ menu) : 2 ≤ p ∧ 1 ≤ m ∧ p ^ m ≤ 64 := by
  obtain ⟨c, hc, e⟩ := List.mem_map.mp h
  cases e
  have g := List.all_eq_true.mp cert_lens c hc
  rw [Bool.and_eq_true] at g
  exact of_decide_eq_true g.1
theorem Good.prim {p m t : Nat} (h : Good p m t) : ∃ b, Prim p m t b := by
  obtain ⟨c, hc, e⟩ := List.mem_map.mp h.mem
  obtain ⟨p', m', cs⟩ := c
  obtain ⟨rfl, rfl⟩ : p' = p ∧ m' = m := by simpa using e
  have hs := menu_small h.mem
  have hq : 0 < p' ^ m' := Nat.pow_pos (by lia)
  have g := List.all_eq_true.mp cert_lens _ hc
  have a := List.all_eq_true.mp all_ok _ hc
  rw [Bool.and_eq_true] at g
  have g := g.2
  dsimp only at g a
  by_cases h1 : m' = 1
  · subst h1
    rw [if_pos rfl, Bool.and_eq_true] at g
    have hl : cs.length = 1 := of_decide_eq_true g.1
    obtain ⟨c, rfl⟩ : ∃ c, cs = [c] := by
      cases cs with
      | nil => simp at hl
      | cons c r => cases r with
        | nil => exact ⟨c, rfl⟩
        | cons d r => simp at hl
    have a1 := okRows_get [c] 0 0 c a rfl
    have c0 : c.2 = 0 := by simpa using List.all_eq_true.mp g.2 c (by simp)
    unfold okRow at a1
    rw [if_pos c0] at a1
    have P := prim_of_ok hq a1
    refine ⟨c.1, P.lt, ?_, fun y hy hy2 => ?_, P.pos, fun i h1 h2 => ?_, fun d h1 h2 => ?_⟩
    · rw [pw_top1]; exact P.round
    · obtain ⟨i, hi, e⟩ := P.all y hy hy2
      exact ⟨i, hi, by rw [pw_top1]; exact e⟩
    · rw [pw_top1]; exact P.min i h1 h2
    · obtain ⟨i, a, b, e⟩ := P.low d h1 h2
      exact ⟨i, a, b, by rw [pw_top1]; exact e⟩
  · rw [if_neg h1] at g
    have hl : cs.length = p' ^ m' := of_decide_eq_true g
    have ht : t < cs.length := by rw [hl]; exact h.top
    have a1 := okRows_get cs 0 t cs[t] a (List.getElem?_eq_getElem ht)
    rw [Nat.zero_add] at a1
    unfold okRow at a1
    by_cases c0 : cs[t].2 = 0
    · rw [if_pos c0] at a1
      exact ⟨_, prim_of_ok hq a1⟩
    · rw [if_neg c0, Bool.and_eq_true] at a1
      have b := of_decide_eq_true a1.1
      rcases h.no with h2 | h2
      · exact absurd h2 h1
      · exact absurd (by simpa using a1.2) (h2 _ _ b.1 b.2.1 b.2.2.1 (by lia) b.2.2.2)
section
variable {p m t : Nat} (G : Good p m t)
include G
theorem Good.hp : 2 ≤ p := (menu_small G.mem).1
theorem Good.hm : 1 ≤ m := (menu_small G.mem).2.1
theorem Good.hq : p ^ m ≤ 64 := (menu_small G.mem).2.2
theorem Good.fermat {x : Nat} (h0 : 0 < x) (hx : x < p ^ m) : pw p m t x (p ^ m - 1) = 1 := by
  obtain ⟨b, P⟩ := G.prim
  obtain ⟨i, _, rfl⟩ := P.all x h0 hx
  rw [← pw_mul G.hp G.hm, Nat.mul_comm, pw_mul G.hp G.hm, P.round, one_pw G.hp G.hm]
theorem Good.inv {x : Nat} (h0 : 0 < x) (hx : x < p ^ m) : mul p m t (pw p m t x (p ^ m - 2)) x = 1 := by
  have h2 := one_lt G.hp G.hm
  have e : p ^ m - 1 = (p ^ m - 2) + 1 := by lia
  have f := G.fermat h0 hx
  rw [e] at f
  exact f
theorem Good.noz {x y : Nat} (h0 : 0 < x) (hx : x < p ^ m) (k0 : 0 < y) (hy : y < p ^ m) : 0 < mul p m t x y := by
  rcases Nat.eq_zero_or_pos (mul p m t x y) with e | e
  · have i := G.inv h0 hx
    have f : mul p m t (pw p m t x (p ^ m - 2)) (mul p m t x y) = y := by rw [← mul_assoc G.hp G.hm, i, one_mul G.hp G.hm hy]
    rw [e, mul_zero G.hp G.hm] at f
    lia
  · exact e
end
end Dg

end
section
-- text: MathD
set_option linter.all false
namespace Dg
/-! sums of things, products of rows -/
section
variable {p m t : Nat} (hp : 2 ≤ p) (hm : 1 ≤ m)
include hp hm
end
section
variable {p m t : Nat} (hp : 2 ≤ p) (hm : 1 ≤ m)
include hp hm
end
end Dg

end
section
-- text: MathE
set_option linter.all false
namespace Dg
section
variable {p m t : Nat} (hp : 2 ≤ p) (hm : 1 ≤ m)
include hp hm
end
end Dg

end
section
-- text: MathF
set_option Elab.async false
set_option linter.all false
set_option maxRecDepth 100000
set_option maxHeartbeats 4000000
namespace Dg
/-! the p-th power of a sum, by a certificate of 1 + y alone -/
/-! in parts: the whole at once takes 2.4 GB of memory, which BUILD counts (-M 12000) -/
section
variable {p m t : Nat} (G : Good p m t)
include G
end
end Dg

end
section
-- text: ExtRd
set_option Elab.async false
set_option linter.all false
set_option maxRecDepth 100000
namespace L2
open PySem PySem.Spec PyProof.Rows
/-! ### reversed(range(n)) -/
section
variable {X : Cx}
/-! ### a list or a tuple -/
end
end L2

end
section
-- text: ExtRz
set_option Elab.async false
set_option linter.all false
set_option maxRecDepth 100000
set_option maxHeartbeats 4000000
namespace L2
open PySem PySem.Spec PyProof.Rows
section
variable {X : Cx}
/-! ### lists of tuples, alike, compared -/
end
end L2
namespace L2
open PySem PySem.Spec PyProof.Rows
end L2

end
section
-- text: ExtRh
set_option Elab.async false
set_option linter.all false
set_option maxRecDepth 100000
set_option maxHeartbeats 4000000
namespace L2
open PySem PySem.Spec PyProof.Rows
/-! ### an exception object -/
section
variable {M : Model} {A : Around} {E : Value → Shared → Prop} {s : Shared}
end
/-! ### an exception behind a call -/
section
variable {P : Program} {w : World} {K : PySem.W.Frag} {mg : Str → Option Value} {base : Heap} {N : List Str} {qual : Str} {scope : Scope} {f : Addr} {cd : Value} {A : Around} {outer : List Env} {s₀ : Shared} {H₀ : Hp} {E : XK}
end
end L2

end
section
-- text: ExtRi
set_option Elab.async false
set_option linter.all false
set_option maxRecDepth 100000
set_option maxHeartbeats 4000000
namespace L2
open PySem PySem.Spec PyProof.Rows
/-! ### own exception classes, as the fragment has them -/
/-! ### raise C(..) -/
section
variable {P : Program} {w : World} {K : PySem.W.Frag} {mg : Str → Option Value} {base : Heap} {N : List Str} {qual : Str} {scope : Scope} {f : Addr} {cd : Value} {A : Around} {outer : List Env} {s₀ : Shared} {H₀ : Hp} {E : XK}
end
section
variable {P : Program} {w : World} {K : PySem.W.Frag} {mg : Str → Option Value} {base : Heap} {N : List Str} {qual : Str} {scope : Scope} {f : Addr} {cd : Value} {A : Around} {outer : List Env} {s₀ : Shared} {H₀ : Hp} {E : XK}
end
/-! ### try -/
section
variable {X : Cx} {pins pins' : List (Addr × Obj)} {σ : St} {H : Hp} {s : Shared} {F : Addr → St → Hp → Prop} {a : Addr}
end
end L2

end
section
-- text: ExtRj
set_option Elab.async false
set_option linter.all false
set_option maxRecDepth 100000
set_option maxHeartbeats 4000000
namespace L2
open PySem PySem.Spec PyProof.Rows PySem.W
/-! ### isinstance of a caught exception (or None) -/
section
variable {prog : Program} {w : World} {A : Around} {E : Value → Shared → Prop} {s : Shared} {K : Frag} {e C : Addr}
end
end L2
namespace L2
open PySem PySem.Spec PyProof.Rows PySem.W
section
variable {K : Frag} {mg : Str → Option Value} {Re By Nr Tm Nt Nl : Addr}
end
end L2
namespace L2
open PySem PySem.Spec PyProof.Rows
/-! ### lists of flat values compared -/
section
variable {X : Cx}
end
end L2
namespace L2
open PySem PySem.Spec PyProof.Rows
end L2
namespace L2
open PySem PySem.Spec PyProof.Rows
section
variable {X : Cx} {o e : Expr} {es : List Expr} {to : TE} {t : TA} {name : Str} {apos cpos : Pos} {T : String} {id : String} {r : V → List V → Hp → VK → Prop} {K : PySem.W.Frag}
end
end L2

end
section
-- text: ExtRk
set_option Elab.async false
set_option linter.all false
set_option maxRecDepth 100000
set_option maxHeartbeats 4000000
namespace L2
open PySem PySem.Spec PyProof.Rows
section
variable {X : Cx}
/-! ### xs.index(k), a list of ints -/
end
end L2
namespace L2
open PySem PySem.Spec PyProof.Rows
section
variable {X : Cx}
/-! ### range(a, b) as an object -/
end
end L2

end
section
-- text: ExtRl
set_option Elab.async false
set_option linter.all false
set_option maxRecDepth 100000
set_option maxHeartbeats 4000000
namespace L2
open PySem PySem.Spec PyProof.Rows
section
variable {X : Cx}
/-! ### repr of a text -/
/-! ### a text or a tuple against a text -/
end
end L2
namespace L2
open PySem PySem.Spec PyProof.Rows
section
variable {X : Cx}
/-! ### repr of a tuple, by its data -/
end
end L2
namespace L2
open PySem PySem.Spec PyProof.Rows PySem.W
section
variable {K : Frag} {mg : Str → Option Value} {Re By Nr Tm : Addr}
end
end L2

end
section
-- text: ExtRm
set_option Elab.async false
set_option linter.all false
set_option maxRecDepth 100000
set_option maxHeartbeats 4000000
namespace L2
open PySem PySem.Spec PyProof.Rows
/-! ### a comprehension whose own names are captured by a comprehension within -/
section
variable {M : Model} {A : Around} {E : Value → Shared → Prop} {s : Shared}
end
section
variable {X : Cx}


end
end L2
namespace L2
open PySem PySem.Spec PyProof.Rows
end L2

end
section
-- text: ExtTa
set_option Elab.async false
set_option linter.all false
set_option maxRecDepth 100000
set_option maxHeartbeats 4000000
namespace L2
open PySem PySem.Spec PyProof.Rows
end L2

end
section
-- text: ExtRn
set_option Elab.async false
set_option linter.all false
set_option maxRecDepth 100000
set_option maxHeartbeats 4000000
namespace L2
open PySem PySem.Spec PyProof.Rows
section
variable {X : Cx}
/-! ### is, of bools -/
/-! ### isinstance of any value of a known kind, dicts too -/
noncomputable def kindD (K : PySem.W.Frag) (H : Hp) (x : V) (T : String) : Prop := kindV K H x T ∨ (T = "dict" ∧ ∃ a kvs, x = .ref a ∧ H a = some (.dK kvs))
noncomputable def rIsiD (K : PySem.W.Frag) (U : String) : List V → Hp → VK → Prop := fun xs H Q => ∃ x T, xs = [x, .ty U] ∧ kindD K H x T ∧ Q (.bl (subK T U)) H
theorem call_isiD {U : String} (hU : subK "dict" U = false) (hty : typeOf (.type U) = pure (.type "type")) (hsub : isSubtype (.type "dict") (.type U) = pure false) (hc : CallR X (.builtin "isinstance") (rIsi X.K U)) : CallR X (.builtin "isinstance") (rIsiD X.K U) := by
  intro pins s σ H xs us Q I r h
  obtain ⟨x, T, rfl, hk, q⟩ := h
  rcases hk with hk | ⟨rfl, a, kvs, rfl, e⟩
  · exact hc pins s σ H _ us Q I r ⟨x, T, rfl, hk, q⟩
  · obtain ⟨u, w', rfl, rx, ry⟩ := vals2 r
    cases ry; cases rx
    have ok := I.hok _ _ e
    obtain ⟨_, _, vs, _, d⟩ := ok
    rw [hU] at q
    refine call_isinstance (isinstance_false_dict (subK_ne hU) hty hsub) ⟨?_, ⟨.bl false, H, I.tok _, rfl, q⟩⟩
    obtain ⟨o, es, ep, ho, hx, _⟩ := d
    exact ⟨o, ho, hx.1⟩
theorem isiD_int : CallR X (.builtin "isinstance") (rIsiD X.K "int") := call_isiD (by decide) (by rfl) (by rw [isSubtype_type]; kernel_rfl) isi_int
theorem isiD_bool : CallR X (.builtin "isinstance") (rIsiD X.K "bool") := call_isiD (by decide) (by rfl) (by rw [isSubtype_type]; kernel_rfl) isi_bool
theorem isiD_tuple : CallR X (.builtin "isinstance") (rIsiD X.K "tuple") := call_isiD (by decide) (by rfl) (by rw [isSubtype_type]; kernel_rfl) isi_tuple
/-! ### str of an int, of a tuple by its data -/
noncomputable def rStr (K : PySem.W.Frag) : List V → Hp → VK → Prop := fun vs H Q => ∃ x : V, vs = [x] ∧ ((∃ i : Int, x = .int i ∧ i.natAbs.log2 < 1920) ∨ (∃ (a : Addr) (d : PyData), x = .ref a ∧ RdN K H 10 (.ref a) d ∧ DOk d (2 ^ 20))) ∧ ∀ z : Str, Q (.str z) H
theorem call_str (hg : X.A.guards = some []) (hu : X.A.units + 64 < cLine) : CallR X (.type "str") (rStr X.K) := by
  intro pins s σ H vs us Q I r h
  obtain ⟨x, rfl, hx, q⟩ := h
  obtain ⟨u, rfl, rx⟩ := vals1 r
  rcases hx with ⟨i, rfl, hi⟩ | ⟨a, d, rfl, hd, ok⟩
  · obtain ⟨t, rfl⟩ := rx
    exact P.str_of_int hi ⟨.str _, H, I.tok _, ⟨_, rfl⟩, q _⟩
  · cases rx
    have R := reads_of I 10 (.ref a) d (.ref a) hd rfl
    refine str_of_reads R ok.sh (PyData.noDict_hsm ok.nd) hg (by have := ok.dp; lia) (fun _ _ e => e) (fun h' u tk hk => ?_) (PyData.shown_fits (B := 8) (by decide) (by decide) ok.sl ok.we)
    exact ⟨.str _, H, I.kept (fun b o e => hk b o e), ⟨u, rfl⟩, q _⟩
theorem boot_ty_str : bootBuiltins "str" = some (.type "str") := by decide +kernel
end
end L2

end
section
-- text: P1
set_option Elab.async false
set_option linter.all false
set_option maxRecDepth 100000
set_option maxHeartbeats 4000000
namespace My
open PySem L2 Dg
noncomputable def top (i : Nat) : Stmt := PySem.Challenge.pw_roundwords_k01_what_is_a_field.main.body.getD i (.Pass ⟨0, 0, 0, 0⟩)
noncomputable abbrev s_is_whole : Stmt := top 1
noncomputable abbrev s_is_wholes : Stmt := top 2
noncomputable abbrev s_number_power : Stmt := top 3
noncomputable abbrev s_is_prime : Stmt := top 4
noncomputable abbrev s_many_things : Stmt := top 7
noncomputable abbrev s_plus : Stmt := top 8
noncomputable abbrev s_digit_times : Stmt := top 9
noncomputable abbrev s_lifted : Stmt := top 10
noncomputable abbrev s_times : Stmt := top 11
noncomputable abbrev s_times_itself : Stmt := top 12
noncomputable abbrev s_all_come_to_one : Stmt := top 13
noncomputable abbrev s_is_field : Stmt := top 14
noncomputable abbrev s__law_purse : Stmt := top 16
noncomputable abbrev s__law_pick : Stmt := top 17
noncomputable abbrev s__law_raised : Stmt := top 18
noncomputable abbrev s__law_digits : Stmt := top 19
noncomputable abbrev s__law_number : Stmt := top 20
noncomputable abbrev s__law_product : Stmt := top 21
noncomputable abbrev s__law_is_good : Stmt := top 22
noncomputable abbrev s__law_field : Stmt := top 23
noncomputable abbrev s__law_is_whole : Stmt := top 24
noncomputable abbrev s__law_due : Stmt := top 25
noncomputable abbrev s__law_otherwise : Stmt := top 26
noncomputable abbrev s__law_told : Stmt := top 27
noncomputable abbrev s_law : Stmt := top 28
/-- the built-in names that the text uses stand unhidden -/
noncomputable def bnames : List Str := ["range", "len", "abs", "min", "max", "all", "any", "isinstance", "int", "bool", "tuple", "list", "zip", "enumerate", "repr", "dict", "reversed", "sorted", "sum", "set", "str"]
noncomputable abbrev Bl (mg : Str → Option Value) : Prop := ∀ x ∈ bnames, mg x = none
/-- the tuple of a field -/
noncomputable def Fld (K : PySem.W.Frag) (H : Hp) (a : Addr) (p m t : Nat) : Prop := SqT K H a [.int p, .int m, .int t]
theorem Same.tup {K : PySem.W.Frag} {H H' : Hp} {a : Addr} {xs : List V} (e : Same H H') (h : SqT K H a xs) : SqT K H' a xs := by
  rcases h with (h | ⟨o, h⟩) | h
  · exact .inl (.inl (e _ _ h))
  · exact .inl (.inr ⟨o, e _ _ h⟩)
  · exact .inr h
/-- the whole number in slot i -/
noncomputable def mI (σ : St) (i : Nat) : Nat := match σ[i]? with
  | some (some (.int n)) => n.toNat
  | _ => 0
local macro_rules | `(tactic| walk_at "rd") => `(tactic| repeat (first | refine ⟨_, rfl, ?_⟩ | refine ⟨_, _, rfl, rfl, ?_⟩))
theorem tOr_of {t u : TT} {σ : St} {H : Hp} {Q : Bool → Hp → Prop} {b1 b2 : Bool} (h1 : ∀ Q : Bool → Hp → Prop, Q b1 H → t σ H Q) (h2 : ∀ Q : Bool → Hp → Prop, Q b2 H → u σ H Q) (q : Q (b1 || b2) H) : tOr t u σ H Q := by
  refine h1 _ ?_
  cases b1
  · exact h2 _ q
  · exact q
section
variable {P : Program} {w : World} {K : PySem.W.Frag} {mg : Str → Option Value} {base : Heap} {f : Addr} {fd : FuncData}
/-! plus -/
noncomputable def sp_plus (K : PySem.W.Frag) : Sp := fun vs H Q _ => ∃ (a : Addr) (p m t x y : Nat), vs = [.ref a, .int x, .int y] ∧ Fld K H a p m t ∧ 2 ≤ p ∧ p ≤ 64 ∧ ∀ r : Nat, (∀ i, dg p i r = (dg p i x + dg p i y) % p) → Q (.int r) H
theorem sc_plus : FnScope ["field", "one", "other", "p", "total", "unit"] ["field", "one", "other"] (defScope s_plus) := ⟨rfl, rfl, rfl, by decide +kernel, rfl, by decide +kernel, by decide +kernel⟩
theorem ok_plus (B : Bl mg) (F : Fun K "plus" "plus" s_plus f fd) : FnOk P w K mg base CX0 1 f fd ["field", "one", "other"] (sp_plus K) := by
  refine F.ok sc_plus (fun vs H Q E h => ?_) (fun cdv A outer s H vs Q E hr h => ?_)
  · obtain ⟨a, p, m, t, x, y, rfl, _⟩ := h; rfl
  obtain ⟨a, p, m, t, x, y, rfl, hF, hp, hp2, q⟩ := h
  refine ⟨_, (@pss_cons _ _ _ _ _ (@ps_set _ _ 3 _ _ _ _ sc_plus.nd rfl (Or.inl rfl) (@pe_ix _ _ _ _ _ _ _ ix_tup (pv 0) pe_int (fun _ _ => rfl)) (by rfl) (by first | exact .inl rfl | exact .inr rfl | assumption)) (@pss_cons _ _ _ _ _ (@ps_set _ _ 4 _ _ _ _ sc_plus.nd rfl (Or.inl rfl) pe_int (by rfl) (by first | exact .inl rfl | exact .inr rfl | assumption)) (@pss_cons _ _ _ _ _ (@ps_set _ _ 5 _ _ _ _ sc_plus.nd rfl (Or.inl rfl) pe_int (by rfl) (by first | exact .inl rfl | exact .inr rfl | assumption)) (@pss_cons _ _ _ _ _ (@ps_while _ _ _ _ _ _ PassesOwn.never (@PW.pt _ _ _ (@pw_or _ _ _ _ _ _ _ (@pt_cmpR _ _ _ _ _ _ _ _ op_gt (pv 1) pe_int (nomark _)) (@pw_or1 _ _ _ _ (@pt_cmpR _ _ _ _ _ _ _ _ op_gt (pv 2) pe_int (nomark _))))) (@pss_cons _ _ _ _ _ (@ps_aug _ _ 4 _ _ _ _ _ _ sc_plus.nd rfl (Or.inl rfl) (@pe_op _ _ _ _ _ _ _ _ op_mul (@pe_op _ _ _ _ _ _ _ _ op_mod (@pe_op _ _ _ _ _ _ _ _ op_add (pv 1) (pv 2)) (pv 3)) (pv 5)) iop_add (by first | exact .inl rfl | exact .inr rfl | assumption)) (@pss_cons _ _ _ _ _ (@ps_aug _ _ 1 _ _ _ _ _ _ sc_plus.nd rfl (Or.inl rfl) (pv 3) iop_fdv (by first | exact .inl rfl | exact .inr rfl | assumption)) (@pss_cons _ _ _ _ _ (@ps_aug _ _ 2 _ _ _ _ _ _ sc_plus.nd rfl (Or.inl rfl) (pv 3) iop_fdv (by first | exact .inl rfl | exact .inr rfl | assumption)) (@pss_one _ _ _ (@ps_aug _ _ 5 _ _ _ _ _ _ sc_plus.nd rfl (Or.inl rfl) (pv 3) iop_mul (by first | exact .inl rfl | exact .inr rfl | assumption))))))) (@pss_one _ _ _ (@ps_ret _ _ _ _ (pv 4))))))), ?_⟩
  refine ⟨_, rfl, a, _, _, _, rfl, rfl, hF, rfl, ?_⟩
  refine while_go (fun σ H' => H' = H ∧ ∃ (k o u tt : Nat), σ = [some (.ref a), some (.int o), some (.int u), some (.int p), some (.int tt), some (.int ((p ^ k : Nat) : Int))] ∧ o = x / p ^ k ∧ u = y / p ^ k ∧ tt < p ^ k ∧ ∀ i, i < k → dg p i tt = (dg p i x + dg p i y) % p)
    (fun σ _ => mI σ 1 + mI σ 2) ⟨rfl, 0, x, y, 0, rfl, by simp, by simp, by simp, fun i hi => absurd hi (Nat.not_lt_zero _)⟩ ?_
  rintro σ H' ⟨rfl, k, o, u, tt, rfl, ho, hu, ht, hd⟩
  have pk : 0 < p ^ k := Nat.pow_pos (by lia)
  refine tOr_of (b1 := decide ((0 : Int) < o)) (b2 := decide ((0 : Int) < u)) (fun Q q => ⟨_, rfl, _, _, rfl, rfl, _, rfl, q⟩) (fun Q q => ⟨_, rfl, _, _, rfl, rfl, _, rfl, q⟩) ?_
  refine ite2 (fun c => ?_) (fun c => ?_)
  · simp only [Bool.or_eq_true, decide_eq_true_eq] at c
    refine ⟨fun σ' H'' => H'' = H' ∧ σ' = [some (.ref a), some (.int ((o / p : Nat) : Int)), some (.int ((u / p : Nat) : Int)), some (.int p), some (.int ((tt + (o + u) % p * p ^ k : Nat) : Int)), some (.int ((p ^ k * p : Nat) : Int))], ?_, ?_⟩
    · rintro σ' H'' ⟨rfl, rfl⟩
      have l1 : o / p ≤ o := Nat.div_le_self _ _
      have l2 : u / p ≤ u := Nat.div_le_self _ _
      have l3 : o / p < o ∨ u / p < u := by
        rcases c with c | c
        · exact .inl (Nat.div_lt_self (by lia) (by lia))
        · exact .inr (Nat.div_lt_self (by lia) (by lia))
      refine ⟨_, ?_, rfl, rfl, k + 1, o / p, u / p, tt + (o + u) % p * p ^ k, rfl, ?_, ?_, ?_, fun i hi => ?_⟩
      · show o / p + u / p < o + u; lia
      · rw [ho, Nat.pow_succ, Nat.div_div_eq_div_mul]
      · rw [hu, Nat.pow_succ, Nat.div_div_eq_div_mul]
      · exact put_lt ht (Nat.mod_lt _ (by lia))
      · rw [dg_put hp ht (Nat.mod_lt _ (by lia))]
        by_cases e : i = k
        · rw [if_pos e, ho, hu, e]; unfold dg; rw [Nat.add_mod]
        · rw [if_neg e]; exact hd i (by lia)
    · walk_at "rd"
      refine ⟨by show (0 : Int) < p; lia, ?_⟩
      walk_at "rd"
      have hm : (o + u) % p < p := Nat.mod_lt _ (by lia)
      refine ⟨.inl ⟨by show -(2 ^ 64 : Int) < (((o + u) % p : Nat) : Int); lia, by show (((o + u) % p : Nat) : Int) < 2 ^ 64; lia⟩, ?_⟩
      walk_at "rd"
      refine ⟨⟨by show (0 : Int) < p; lia, by show (p : Int) < 2 ^ 64; lia⟩, ?_⟩
      walk_at "rd"
      refine ⟨⟨by show (0 : Int) < p; lia, by show (p : Int) < 2 ^ 64; lia⟩, ?_⟩
      walk_at "rd"
      refine ⟨.inr ⟨by show -(2 ^ 64 : Int) < p; lia, by show (p : Int) < 2 ^ 64; lia⟩, ?_⟩
      exact ⟨rfl, rfl⟩
  · simp only [Bool.or_eq_true, decide_eq_true_eq, not_or] at c
    refine ⟨_, rfl, q tt fun i => ?_⟩
    by_cases e : i < k
    · exact hd i e
    · have hx : x < p ^ k := by
        rcases Nat.lt_or_ge x (p ^ k) with h | h
        · exact h
        · have := Nat.div_pos h pk; lia
      have hy : y < p ^ k := by
        rcases Nat.lt_or_ge y (p ^ k) with h | h
        · exact h
        · have := Nat.div_pos h pk; lia
      rw [dg_of_lt hp ht (by lia), dg_of_lt hp hx (by lia), dg_of_lt hp hy (by lia)]
      simp
/-! digit_times -/
noncomputable def sp_digit_times (K : PySem.W.Frag) : Sp := fun vs H Q _ => ∃ (a : Addr) (p m t d x : Nat), vs = [.ref a, .int d, .int x] ∧ Fld K H a p m t ∧ 2 ≤ p ∧ p ≤ 64 ∧ d < 2 ^ 64 ∧ ∀ r : Nat, (∀ i, dg p i r = d * dg p i x % p) → Q (.int r) H
theorem sc_digit_times : FnScope ["field", "digit", "one", "p", "total", "unit"] ["field", "digit", "one"] (defScope s_digit_times) := ⟨rfl, rfl, rfl, by decide +kernel, rfl, by decide +kernel, by decide +kernel⟩
theorem ok_digit_times (B : Bl mg) (F : Fun K "digit_times" "digit_times" s_digit_times f fd) : FnOk P w K mg base CX0 1 f fd ["field", "digit", "one"] (sp_digit_times K) := by
  refine F.ok sc_digit_times (fun vs H Q E h => ?_) (fun cdv A outer s H vs Q E hr h => ?_)
  · obtain ⟨a, p, m, t, x, y, rfl, _⟩ := h; rfl
  obtain ⟨a, p, m, t, d, x, rfl, hF, hp, hp2, hd2, q⟩ := h
  refine ⟨_, (@pss_cons _ _ _ _ _ (@ps_set _ _ 3 _ _ _ _ sc_digit_times.nd rfl (Or.inl rfl) (@pe_ix _ _ _ _ _ _ _ ix_tup (pv 0) pe_int (fun _ _ => rfl)) (by rfl) (by first | exact .inl rfl | exact .inr rfl | assumption)) (@pss_cons _ _ _ _ _ (@ps_set _ _ 4 _ _ _ _ sc_digit_times.nd rfl (Or.inl rfl) pe_int (by rfl) (by first | exact .inl rfl | exact .inr rfl | assumption)) (@pss_cons _ _ _ _ _ (@ps_set _ _ 5 _ _ _ _ sc_digit_times.nd rfl (Or.inl rfl) pe_int (by rfl) (by first | exact .inl rfl | exact .inr rfl | assumption)) (@pss_cons _ _ _ _ _ (@ps_while _ _ _ _ _ _ PassesOwn.never (@pt_cmpR _ _ _ _ _ _ _ _ op_gt (pv 2) pe_int (nomark _)) (@pss_cons _ _ _ _ _ (@ps_aug _ _ 4 _ _ _ _ _ _ sc_digit_times.nd rfl (Or.inl rfl) (@pe_op _ _ _ _ _ _ _ _ op_mul (@pe_op _ _ _ _ _ _ _ _ op_mod (@pe_op _ _ _ _ _ _ _ _ op_mul (pv 1) (pv 2)) (pv 3)) (pv 5)) iop_add (by first | exact .inl rfl | exact .inr rfl | assumption)) (@pss_cons _ _ _ _ _ (@ps_aug _ _ 2 _ _ _ _ _ _ sc_digit_times.nd rfl (Or.inl rfl) (pv 3) iop_fdv (by first | exact .inl rfl | exact .inr rfl | assumption)) (@pss_one _ _ _ (@ps_aug _ _ 5 _ _ _ _ _ _ sc_digit_times.nd rfl (Or.inl rfl) (pv 3) iop_mul (by first | exact .inl rfl | exact .inr rfl | assumption)))))) (@pss_one _ _ _ (@ps_ret _ _ _ _ (pv 4))))))), ?_⟩
  refine ⟨_, rfl, a, _, _, _, rfl, rfl, hF, rfl, ?_⟩
  refine while_go (fun σ H' => H' = H ∧ ∃ (k o tt : Nat), σ = [some (.ref a), some (.int d), some (.int o), some (.int p), some (.int tt), some (.int ((p ^ k : Nat) : Int))] ∧ o = x / p ^ k ∧ tt < p ^ k ∧ ∀ i, i < k → dg p i tt = d * dg p i x % p)
    (fun σ _ => mI σ 2) ⟨rfl, 0, x, 0, rfl, by simp, by simp, fun i hi => absurd hi (Nat.not_lt_zero _)⟩ ?_
  rintro σ H' ⟨rfl, k, o, tt, rfl, ho, ht, hd⟩
  have pk : 0 < p ^ k := Nat.pow_pos (by lia)
  walk_at "rd"
  refine ite2 (fun c => ?_) (fun c => ?_)
  · have c' : 0 < o := by have := of_decide_eq_true c; lia
    refine ⟨fun σ' H'' => H'' = H' ∧ σ' = [some (.ref a), some (.int d), some (.int ((o / p : Nat) : Int)), some (.int p), some (.int ((tt + d * o % p * p ^ k : Nat) : Int)), some (.int ((p ^ k * p : Nat) : Int))], ?_, ?_⟩
    · rintro σ' H'' ⟨rfl, rfl⟩
      refine ⟨_, ?_, rfl, rfl, k + 1, o / p, tt + d * o % p * p ^ k, rfl, ?_, ?_, fun i hi => ?_⟩
      · show o / p < o; exact Nat.div_lt_self c' (by lia)
      · rw [ho, Nat.pow_succ, Nat.div_div_eq_div_mul]
      · exact put_lt ht (Nat.mod_lt _ (by lia))
      · rw [dg_put hp ht (Nat.mod_lt _ (by lia))]
        by_cases e : i = k
        · rw [if_pos e, ho, e]; unfold dg; rw [Nat.mul_mod_mod]
        · rw [if_neg e]; exact hd i (by lia)
    · have hm : d * o % p < p := Nat.mod_lt _ (by lia)
      walk_at "rd"
      refine ⟨.inl ⟨by show -(2 ^ 64 : Int) < (d : Int); lia, by show (d : Int) < 2 ^ 64; lia⟩, ?_⟩
      walk_at "rd"
      refine ⟨by show (0 : Int) < p; lia, ?_⟩
      walk_at "rd"
      refine ⟨.inl ⟨by show -(2 ^ 64 : Int) < ((d * o % p : Nat) : Int); lia, by show ((d * o % p : Nat) : Int) < 2 ^ 64; lia⟩, ?_⟩
      walk_at "rd"
      refine ⟨⟨by show (0 : Int) < p; lia, by show (p : Int) < 2 ^ 64; lia⟩, ?_⟩
      walk_at "rd"
      refine ⟨.inr ⟨by show -(2 ^ 64 : Int) < p; lia, by show (p : Int) < 2 ^ 64; lia⟩, ?_⟩
      exact ⟨rfl, rfl⟩
  · have c' : o = 0 := by have := of_decide_eq_false (Bool.eq_false_iff.mpr c); lia
    refine ⟨_, rfl, q tt fun i => ?_⟩
    by_cases e : i < k
    · exact hd i e
    · have hx : x < p ^ k := by
        rcases Nat.lt_or_ge x (p ^ k) with h | h
        · exact h
        · have := Nat.div_pos h pk; lia
      rw [dg_of_lt hp ht (by lia), dg_of_lt hp hx (by lia)]
      simp
/-! number_power -/
noncomputable def sp_number_power : Sp := fun vs H Q _ => ∃ (b k : Nat), vs = [.int b, .int k] ∧ b ≤ 64 ∧ k ≤ 1000 ∧ Q (.int ((b ^ k : Nat) : Int)) H
theorem sc_number_power : FnScope ["base", "many", "product", "step"] ["base", "many"] (defScope s_number_power) := ⟨rfl, rfl, rfl, by decide +kernel, rfl, by decide +kernel, by decide +kernel⟩
theorem ok_number_power (B : Bl mg) (F : Fun K "number_power" "number_power" s_number_power f fd) : FnOk P w K mg base CX0 1 f fd ["base", "many"] sp_number_power := by
  refine F.ok sc_number_power (fun vs H Q E h => ?_) (fun cdv A outer s H vs Q E hr h => ?_)
  · obtain ⟨b, k, rfl, _⟩ := h; rfl
  obtain ⟨b, k, rfl, hb, hk, q⟩ := h
  refine ⟨_, (@pss_cons _ _ _ _ _ (@ps_set _ _ 2 _ _ _ _ sc_number_power.nd rfl (Or.inl rfl) pe_int (by rfl) (by first | exact .inl rfl | exact .inr rfl | assumption)) (@pss_cons _ _ _ _ _ (@ps_for _ _ _ _ _ _ _ _ PassesOwn.never rfl (@pi_range1 _ _ _ _ _ _ rfl (B "range" (by decide)) (@pa_cons _ _ _ _ _ (pv 1) pa_nil (by rfl)) (by rfl)) (@pg_name _ _ 3 _ sc_number_power.nd rfl (Or.inl rfl) (by first | exact .inl rfl | exact .inr rfl | assumption)) (@pss_one _ _ _ (@ps_aug _ _ 2 _ _ _ _ _ _ sc_number_power.nd rfl (Or.inl rfl) (pv 0) iop_mul (by first | exact .inl rfl | exact .inr rfl | assumption))) (by intro _; rfl)) (@pss_one _ _ _ (@ps_ret _ _ _ _ (pv 2))))), ?_⟩
  refine ⟨_, rfl, k, rfl, by lia, by lia, for_range (n := k) (fun i σ H' => H' = H ∧ ∃ s, σ = [some (.int b), some (.int k), some (.int ((b ^ i : Nat) : Int)), s]) ⟨rfl, none, rfl⟩ ?_ ?_⟩
  · rintro i σ H' hi ⟨rfl, s, rfl⟩
    walk_at "rd"
    refine ⟨.inr ⟨by lia, by lia⟩, rfl, some (.int (0 + (i : Int))), ?_⟩
    rw [Nat.pow_succ]; rfl
  · rintro σ H' ⟨rfl, s, rfl⟩
    exact ⟨_, rfl, q⟩
/-! minus -/
theorem ints_eq {i j : Int} (h : i = j) : V.int i = V.int j := congrArg V.int h
/-! lifted -/
noncomputable def sp_lifted (K : PySem.W.Frag) : Sp := fun vs H Q _ => ∃ (a : Addr) (p m t x : Nat), vs = [.ref a, .int x] ∧ Fld K H a p m t ∧ 2 ≤ p ∧ 1 ≤ m ∧ p ^ m ≤ 64 ∧ t < p ^ m ∧ x < p ^ m ∧ ∀ r : Nat, (∀ i, dg p i r = liftF m (fun i => dg p i t) (fun i => dg p i x) i % p) → Q (.int r) H
theorem p_le {p m : Nat} (hp : 2 ≤ p) (hm : 1 ≤ m) (h : p ^ m ≤ 64) : p ≤ 64 := Nat.le_trans (by simpa using Nat.pow_le_pow_right (n := p) (by lia) hm) h
theorem m_le {p m : Nat} (hp : 2 ≤ p) (h : p ^ m ≤ 64) : m ≤ 6 := by
  rcases Nat.lt_or_ge 6 m with h1 | h1
  · have := Nat.pow_le_pow_left hp m
    have := Nat.pow_le_pow_right (n := 2) (by lia) h1
    lia
  · exact h1
theorem sc_lifted : FnScope ["field", "one", "p", "m", "top", "last_unit", "moved"] ["field", "one"] (defScope s_lifted) := ⟨rfl, rfl, rfl, by decide +kernel, rfl, by decide +kernel, by decide +kernel⟩
theorem ok_lifted (B : Bl mg) (h_plus : Has P w K mg base 1 "plus" ["field", "one", "other"] (sp_plus K)) (h_digit_times : Has P w K mg base 1 "digit_times" ["field", "digit", "one"] (sp_digit_times K)) (h_number_power : Has P w K mg base 1 "number_power" ["base", "many"] sp_number_power) (F : Fun K "lifted" "lifted" s_lifted f fd) : FnOk P w K mg base CX0 2 f fd ["field", "one"] (sp_lifted K) := by
  refine F.ok sc_lifted (fun vs H Q E h => ?_) (fun cdv A outer s H vs Q E hr h => ?_)
  · obtain ⟨a, p, m, t, x, rfl, _⟩ := h; rfl
  obtain ⟨a, p, m, t, x, rfl, hF, hp, hm, hpm, ht, hx, q⟩ := h
  have hp2 := p_le hp hm hpm
  have hm6 := m_le hp hpm
  refine ⟨_, (@pss_cons _ _ _ _ _ (@ps_asg _ _ _ _ _ _ (pv 0) (@pg_tup _ _ _ _ _ _ rfl (@pgs_cons _ _ _ _ _ (@pg_name _ _ 2 _ sc_lifted.nd rfl (Or.inl rfl) (by first | exact .inl rfl | exact .inr rfl | assumption)) (@pgs_cons _ _ _ _ _ (@pg_name _ _ 3 _ sc_lifted.nd rfl (Or.inl rfl) (by first | exact .inl rfl | exact .inr rfl | assumption)) (@pgs_cons _ _ _ _ _ (@pg_name _ _ 4 _ sc_lifted.nd rfl (Or.inl rfl) (by first | exact .inl rfl | exact .inr rfl | assumption)) pgs_nil (by rfl)) (by rfl)) (by rfl)) (by rfl) (by rfl)) (by rfl) (by rfl) (by rfl)) (@pss_cons _ _ _ _ _ (@ps_set _ _ 5 _ _ _ _ sc_lifted.nd rfl (Or.inl rfl) (@pe_callH _ _ _ _ _ _ _ _ _ _ _ h_number_power hr (by decide) rfl (@pa_cons _ _ _ _ _ (pv 2) (@pa_cons _ _ _ _ _ (@pe_op _ _ _ _ _ _ _ _ op_sub (pv 3) pe_int) pa_nil (by rfl)) (by rfl)) (by decide) (by rfl) (by rfl)) (by rfl) (by first | exact .inl rfl | exact .inr rfl | assumption)) (@pss_cons _ _ _ _ _ (@ps_set _ _ 6 _ _ _ _ sc_lifted.nd rfl (Or.inl rfl) (@pe_op _ _ _ _ _ _ _ _ op_mul (@pe_op _ _ _ _ _ _ _ _ op_mod (pv 1) (pv 5)) (pv 2)) (by rfl) (by first | exact .inl rfl | exact .inr rfl | assumption)) (@pss_one _ _ _ (@ps_ret _ _ _ _ (@pe_callH _ _ _ _ _ _ _ _ _ _ _ h_plus hr (by decide) rfl (@pa_cons _ _ _ _ _ (pv 0) (@pa_cons _ _ _ _ _ (pv 6) (@pa_cons _ _ _ _ _ (@pe_callH _ _ _ _ _ _ _ _ _ _ _ h_digit_times hr (by decide) rfl (@pa_cons _ _ _ _ _ (pv 0) (@pa_cons _ _ _ _ _ (@pe_op _ _ _ _ _ _ _ _ op_fdv (pv 1) (pv 5)) (@pa_cons _ _ _ _ _ (pv 4) pa_nil (by rfl)) (by rfl)) (by rfl)) (by decide) (by rfl) (by rfl)) pa_nil (by rfl)) (by rfl)) (by rfl)) (by decide) (by rfl) (by rfl))))))), ?_⟩
  refine ⟨_, rfl, a, _, rfl, hF, rfl, _, _, rfl, _, _, rfl, _, _, rfl, rfl, ?_⟩
  walk_at "rd"
  refine ⟨p, m - 1, by dsimp only; rw [show ((m : Nat) : Int) - 1 = ((m - 1 : Nat) : Int) by lia]; rfl, hp2, by lia, ?_⟩
  have hl : p ^ (m - 1) ≤ 64 := Nat.le_trans (Nat.pow_le_pow_right (by lia) (by lia)) hpm
  have hl0 : 0 < p ^ (m - 1) := Nat.pow_pos (by lia)
  walk_at "rd"
  refine ⟨by show (0 : Int) < ((p ^ (m - 1) : Nat) : Int); lia, ?_⟩
  walk_at "rd"
  refine ⟨.inr ⟨by show -(2 ^ 64 : Int) < (p : Int); lia, by show (p : Int) < 2 ^ 64; lia⟩, ?_⟩
  walk_at "rd"
  refine ⟨⟨by show (0 : Int) < ((p ^ (m - 1) : Nat) : Int); lia, by show ((p ^ (m - 1) : Nat) : Int) < 2 ^ 64; lia⟩, ?_⟩
  walk_at "rd"
  have hdl := dg_last hp hm hx
  have hdl2 := dg_lt hp (m - 1) x
  refine ⟨a, p, m, t, x / p ^ (m - 1), t, rfl, hF, hp, hp2, by lia, fun r1 h1 => ?_⟩
  refine ⟨a, p, m, t, x % p ^ (m - 1) * p, r1, rfl, hF, hp, hp2, fun r h2 => q r fun i => ?_⟩
  rw [h2 i, h1 i, dg_up hp, dg_low hp, hdl, Nat.add_mod_mod]
  unfold liftF shiftF
  by_cases hi : i < m
  · rw [if_pos hi]
    by_cases h0 : i = 0
    · rw [if_pos h0, if_pos h0]
    · rw [if_neg h0, if_neg h0, if_pos (by lia)]
  · rw [if_neg hi, if_neg (by lia), if_neg (by lia), dg_of_lt hp ht (by lia)]
    simp
/-! times -/
noncomputable def sp_times (K : PySem.W.Frag) : Sp := fun vs H Q _ => ∃ (a : Addr) (p m t x y : Nat), vs = [.ref a, .int x, .int y] ∧ Fld K H a p m t ∧ 2 ≤ p ∧ 1 ≤ m ∧ p ^ m ≤ 64 ∧ t < p ^ m ∧ x < p ^ m ∧ y < p ^ m ∧
  ∀ r : Nat, r < p ^ m → (∀ i, i < m → dg p i r = tn m (fun i => dg p i t) m (fun i => dg p i x) (fun i => dg p i y) i % p) → Q (.int r) H
theorem sc_times : FnScope ["field", "one", "other", "p", "total"] ["field", "one", "other"] (defScope s_times) := ⟨rfl, rfl, rfl, by decide +kernel, rfl, by decide +kernel, by decide +kernel⟩
theorem ok_times (B : Bl mg) (h_plus : Has P w K mg base 1 "plus" ["field", "one", "other"] (sp_plus K)) (h_digit_times : Has P w K mg base 1 "digit_times" ["field", "digit", "one"] (sp_digit_times K)) (h_lifted : Has P w K mg base 2 "lifted" ["field", "one"] (sp_lifted K)) (F : Fun K "times" "times" s_times f fd) : FnOk P w K mg base CX0 3 f fd ["field", "one", "other"] (sp_times K) := by
  refine F.ok sc_times (fun vs H Q E h => ?_) (fun cdv A outer s H vs Q E hr h => ?_)
  · obtain ⟨a, p, m, t, x, y, rfl, _⟩ := h; rfl
  obtain ⟨a, p, m, t, x, y, rfl, hF, hp, hm, hpm, ht, hx, hy, q⟩ := h
  have hp2 := p_le hp hm hpm
  refine ⟨_, (@pss_cons _ _ _ _ _ (@ps_set _ _ 3 _ _ _ _ sc_times.nd rfl (Or.inl rfl) (@pe_ix _ _ _ _ _ _ _ ix_tup (pv 0) pe_int (fun _ _ => rfl)) (by rfl) (by first | exact .inl rfl | exact .inr rfl | assumption)) (@pss_cons _ _ _ _ _ (@ps_set _ _ 4 _ _ _ _ sc_times.nd rfl (Or.inl rfl) pe_int (by rfl) (by first | exact .inl rfl | exact .inr rfl | assumption)) (@pss_cons _ _ _ _ _ (@ps_while _ _ _ _ _ _ PassesOwn.never (@pt_cmpR _ _ _ _ _ _ _ _ op_gt (pv 1) pe_int (nomark _)) (@pss_cons _ _ _ _ _ (@ps_set _ _ 4 _ _ _ _ sc_times.nd rfl (Or.inl rfl) (@pe_callH _ _ _ _ _ _ _ _ _ _ _ h_plus hr (by decide) rfl (@pa_cons _ _ _ _ _ (pv 0) (@pa_cons _ _ _ _ _ (pv 4) (@pa_cons _ _ _ _ _ (@pe_callH _ _ _ _ _ _ _ _ _ _ _ h_digit_times hr (by decide) rfl (@pa_cons _ _ _ _ _ (pv 0) (@pa_cons _ _ _ _ _ (@pe_op _ _ _ _ _ _ _ _ op_mod (pv 1) (pv 3)) (@pa_cons _ _ _ _ _ (pv 2) pa_nil (by rfl)) (by rfl)) (by rfl)) (by decide) (by rfl) (by rfl)) pa_nil (by rfl)) (by rfl)) (by rfl)) (by decide) (by rfl) (by rfl)) (by rfl) (by first | exact .inl rfl | exact .inr rfl | assumption)) (@pss_cons _ _ _ _ _ (@ps_aug _ _ 1 _ _ _ _ _ _ sc_times.nd rfl (Or.inl rfl) (pv 3) iop_fdv (by first | exact .inl rfl | exact .inr rfl | assumption)) (@pss_one _ _ _ (@ps_if _ _ _ _ _ _ _ _ (@pt_cmpR _ _ _ _ _ _ _ _ op_gt (pv 1) pe_int (nomark _)) (@pss_one _ _ _ (@ps_set _ _ 2 _ _ _ _ sc_times.nd rfl (Or.inl rfl) (@pe_callH _ _ _ _ _ _ _ _ _ _ _ h_lifted hr (by decide) rfl (@pa_cons _ _ _ _ _ (pv 0) (@pa_cons _ _ _ _ _ (pv 2) pa_nil (by rfl)) (by rfl)) (by decide) (by rfl) (by rfl)) (by rfl) (by first | exact .inl rfl | exact .inr rfl | assumption))) pss_nil))))) (@pss_one _ _ _ (@ps_ret _ _ _ _ (pv 4)))))), ?_⟩
  refine ⟨_, rfl, a, _, _, _, rfl, rfl, hF, rfl, ?_⟩
  refine while_go (fun σ H' => H' = H ∧ ∃ (k o u tt : Nat), σ = [some (.ref a), some (.int o), some (.int u), some (.int p), some (.int tt)] ∧ o < p ^ k ∧ u < p ^ m ∧ tt < p ^ m ∧
      ∀ i, i < m → (dg p i tt + tn m (fun i => dg p i t) k (fun i => dg p i o) (fun i => dg p i u) i) % p = tn m (fun i => dg p i t) m (fun i => dg p i x) (fun i => dg p i y) i % p)
    (fun σ _ => mI σ 1) ⟨rfl, m, x, y, 0, rfl, hx, hy, Nat.pow_pos (by lia), fun i _ => by rw [dg_nil, Nat.zero_add]⟩ ?_
  rintro σ H' ⟨rfl, k, o, u, tt, rfl, ho, hu, htt, hd⟩
  walk_at "rd"
  refine ite2 (fun c => ?_) (fun c => ?_)
  · have c' : 0 < o := by have := of_decide_eq_true c; lia
    have hk : k ≠ 0 := fun e => by rw [e] at ho; simp at ho; lia
    obtain ⟨k, rfl⟩ : ∃ j, k = j + 1 := ⟨k - 1, by lia⟩
    have om : o % p < p := Nat.mod_lt _ (by lia)
    have ho2 : o / p < p ^ k := Nat.div_lt_of_lt_mul (by rw [Nat.pow_succ, Nat.mul_comm] at ho; exact ho)
    have ho3 : o / p < o := Nat.div_lt_self c' (by lia)
    refine ⟨fun σ' H'' => H'' = H' ∧ ∃ (o' u' t' : Nat), o' = o / p ∧ σ' = [some (.ref a), some (.int o'), some (.int u'), some (.int p), some (.int t')] ∧ u' < p ^ m ∧ t' < p ^ m ∧
      ∀ i, i < m → (dg p i t' + tn m (fun i => dg p i t) k (fun i => dg p i o') (fun i => dg p i u') i) % p = tn m (fun i => dg p i t) m (fun i => dg p i x) (fun i => dg p i y) i % p, ?_, ?_⟩
    · rintro σ' H'' ⟨rfl, o', u', t', rfl, rfl, b1, b2, b3⟩
      exact ⟨_, by show o / p < o; exact ho3, rfl, rfl, k, o / p, u', t', rfl, ho2, b1, b2, b3⟩
    walk_at "rd"
    refine ⟨by show (0 : Int) < p; lia, ?_⟩
    walk_at "rd"
    refine ⟨a, p, m, t, o % p, u, rfl, hF, hp, hp2, by lia, fun r1 h1 => ?_⟩
    refine ⟨a, p, m, t, tt, r1, rfl, hF, hp, hp2, fun r2 h2 => ?_⟩
    have hr2 : r2 < p ^ m := lt_of_zero hp fun i hi => by rw [h2 i, h1 i, dg_of_lt hp htt hi, dg_of_lt hp hu hi]; simp
    have hd2 : ∀ i, i < m → (dg p i r2 + tn m (fun i => dg p i t) k (fun i => dg p i (o / p)) (liftF m (fun i => dg p i t) fun i => dg p i u) i) % p = tn m (fun i => dg p i t) m (fun i => dg p i x) (fun i => dg p i y) i % p := fun i hi => by
      rw [← hd i hi, h2 i, h1 i]
      show _ = (dg p i tt + (dg p 0 o * dg p i u + tn m (fun i => dg p i t) k (fun j => dg p (j + 1) o) (liftF m (fun i => dg p i t) fun i => dg p i u) i)) % p
      rw [dg_fun_succ, dg_zero, ← Nat.add_assoc]
      refine add_mod2 ?_ rfl
      rw [Nat.mod_mod]
      exact add_mod2 rfl (Nat.mod_mod _ _)
    walk_at "rd"
    refine ⟨⟨by show (0 : Int) < p; lia, by show (p : Int) < 2 ^ 64; lia⟩, ?_⟩
    walk_at "rd"
    refine ite2 (fun c2 => ?_) (fun c2 => ?_)
    · walk_at "rd"
      refine ⟨a, p, m, t, u, rfl, hF, hp, hm, hpm, ht, hu, fun r3 h3 => ?_⟩
      have hr3 : r3 < p ^ m := lt_of_zero hp fun i hi => by rw [h3 i]; unfold liftF; rw [if_neg (by lia)]; simp
      refine ⟨rfl, o / p, r3, r2, rfl, rfl, hr3, hr2, fun i hi => ?_⟩
      rw [← hd2 i hi]
      exact add_mod2 rfl (tn_congr hm k _ _ _ (fun j _ => by rw [h3 j, Nat.mod_mod]) i hi)
    · have c3 : o / p = 0 := by have := of_decide_eq_false (Bool.eq_false_iff.mpr c2); exact Nat.le_zero.mp (Int.ofNat_le.mp (show ((o / p : Nat) : Int) ≤ ((0 : Nat) : Int) from Int.not_lt.mp this))
      refine ⟨rfl, o / p, u, r2, rfl, rfl, hu, hr2, fun i hi => ?_⟩
      rw [← hd2 i hi, c3, tn_zero k _ _ i (fun j => dg_nil p j), tn_zero k _ _ i (fun j => dg_nil p j)]
  · have c' : o = 0 := by have := of_decide_eq_false (Bool.eq_false_iff.mpr c); lia
    refine ⟨_, rfl, q tt htt fun i hi => ?_⟩
    rw [← hd i hi, c', tn_zero k _ _ i (fun j => dg_nil p j), Nat.add_zero, dg_mod]
end
end My

end
section
-- text: P2
set_option Elab.async false
set_option linter.all false
set_option maxRecDepth 100000
set_option maxHeartbeats 4000000
namespace My
open PySem L2 Dg
local macro_rules | `(tactic| walk_at "rd") => `(tactic| repeat (first | refine ⟨_, rfl, ?_⟩ | refine ⟨_, _, rfl, rfl, ?_⟩))
/-! heaps -/
theorem same_new {H : Hp} {p : Addr} (h : H p = none) (o : HO) : Same H (upd H p o) := fun b u q => by rw [upd_ne (ne_of_none q h)]; exact q
noncomputable abbrev Vn (n : Nat) : V := .int (n : Int)
/-- the purse at a, its digits at g -/
noncomputable def Pu (H : Hp) (a g : Addr) : Prop := ∃ (ns : List Nat) (s t : Nat), H a = some (.lst [.ref g, Vn s, Vn t]) ∧ H g = some (.lst (ns.map Vn))
theorem Pu.ne {H : Hp} {a g : Addr} (h : Pu H a g) : a ≠ g := by
  obtain ⟨ns, s, t, h1, h2⟩ := h
  intro e; subst e; rw [h1] at h2
  have h3 := HO.lst.inj (Option.some.inj h2)
  cases ns with
  | nil => cases h3
  | cons n ns => cases h3
noncomputable def SameX (a g : Addr) (H H' : Hp) : Prop := ∀ b o, b ≠ a → b ≠ g → H b = some o → H' b = some o
theorem SameX.refl {a g : Addr} {H : Hp} : SameX a g H H := fun _ _ _ _ e => e
theorem SameX.trans {a g : Addr} {H H1 H2 : Hp} (h1 : SameX a g H H1) (h2 : SameX a g H1 H2) : SameX a g H H2 := fun b o n1 n2 e => h2 b o n1 n2 (h1 b o n1 n2 e)
theorem Same.x {a g : Addr} {H H1 : Hp} (h : Same H H1) : SameX a g H H1 := fun b o _ _ e => h b o e
theorem Pu.same {H H' : Hp} {a g : Addr} (h : Pu H a g) (s : Same H H') : Pu H' a g := by
  obtain ⟨ns, x, t, h1, h2⟩ := h
  exact ⟨ns, x, t, s _ _ h1, s _ _ h2⟩
theorem szl (n : Nat) (h : n ≤ 100000 := by lia) : n ≤ sizeLine := by rw [sizeLine_eq]; lia
section
variable {P : Program} {w : World} {K : PySem.W.Frag} {mg : Str → Option Value} {base : Heap} {f : Addr} {fd : FuncData}
/-! raised -/
theorem sc__law_raised : FnScope ["_law_one", "_law_many", "_law_found", "_law_turn"] ["_law_one", "_law_many"] (defScope s__law_raised) := ⟨rfl, rfl, rfl, by decide +kernel, rfl, by decide +kernel, by decide +kernel⟩
theorem ok_raised (B : Bl mg) (F : Fun K "_law_raised" "_law_raised" s__law_raised f fd) : FnOk P w K mg base CX0 1 f fd ["_law_one", "_law_many"] sp_number_power := by
  refine F.ok sc__law_raised (fun vs H Q E h => ?_) (fun cdv A outer s H vs Q E hr h => ?_)
  · obtain ⟨b, k, rfl, _⟩ := h; rfl
  obtain ⟨b, k, rfl, hb, hk, q⟩ := h
  refine ⟨_, (@pss_cons _ _ _ _ _ (@ps_set _ _ 2 _ _ _ _ sc__law_raised.nd rfl (Or.inl rfl) pe_int (by rfl) (by first | exact .inl rfl | exact .inr rfl | assumption)) (@pss_cons _ _ _ _ _ (@ps_for _ _ _ _ _ _ _ _ PassesOwn.never rfl (@pi_range1 _ _ _ _ _ _ rfl (B "range" (by decide)) (@pa_cons _ _ _ _ _ (pv 1) pa_nil (by rfl)) (by rfl)) (@pg_name _ _ 3 _ sc__law_raised.nd rfl (Or.inl rfl) (by first | exact .inl rfl | exact .inr rfl | assumption)) (@pss_one _ _ _ (@ps_set _ _ 2 _ _ _ _ sc__law_raised.nd rfl (Or.inl rfl) (@pe_op _ _ _ _ _ _ _ _ op_mul (pv 2) (pv 0)) (by rfl) (by first | exact .inl rfl | exact .inr rfl | assumption))) (by intro _; rfl)) (@pss_one _ _ _ (@ps_ret _ _ _ _ (pv 2))))), ?_⟩
  refine ⟨_, rfl, k, rfl, by lia, by lia, for_range (n := k) (fun i σ H' => H' = H ∧ ∃ s, σ = [some (.int b), some (.int k), some (.int ((b ^ i : Nat) : Int)), s]) ⟨rfl, none, rfl⟩ ?_ ?_⟩
  · rintro i σ H' hi ⟨rfl, s, rfl⟩
    walk_at "rd"
    refine ⟨.inr ⟨by lia, by lia⟩, rfl, some (.int (0 + (i : Int))), ?_⟩
    rw [Nat.pow_succ]; rfl
  · rintro σ H' ⟨rfl, s, rfl⟩
    exact ⟨_, rfl, q⟩
/-! digits -/
noncomputable def digL (p m x : Nat) : List V := (List.range m).map fun i => Vn (dg p i x)
theorem digL_succ (p m x : Nat) : digL p (m + 1) x = digL p m x ++ [Vn (dg p m x)] := by unfold digL; rw [List.range_succ, List.map_append]; rfl
theorem digL_len (p m x : Nat) : (digL p m x).length = m := by simp [digL]
noncomputable def sp_digits (K : PySem.W.Frag) : Sp := fun vs H Q _ => ∃ (a : Addr) (p m t x : Nat), vs = [.ref a, .int x] ∧ Fld K H a p m t ∧ 2 ≤ p ∧ p ≤ 64 ∧ m ≤ 64 ∧ ∀ r H', H r = none → Same H H' → H' r = some (.lst (digL p m x)) → Q (.ref r) H'
theorem sc__law_digits : FnScope ["_law_field_here", "_law_thing", "_law_found", "_law_k"] ["_law_field_here", "_law_thing"] (defScope s__law_digits) := ⟨rfl, rfl, rfl, by decide +kernel, rfl, by decide +kernel, by decide +kernel⟩
theorem ok_digits (B : Bl mg) (F : Fun K "_law_digits" "_law_digits" s__law_digits f fd) : FnOk P w K mg base CX0 1 f fd ["_law_field_here", "_law_thing"] (sp_digits K) := by
  refine F.ok sc__law_digits (fun vs H Q E h => ?_) (fun cdv A outer s H vs Q E hr h => ?_)
  · obtain ⟨a, p, m, t, x, rfl, _⟩ := h; rfl
  obtain ⟨a, p, m, t, x, rfl, hF, hp, hp2, hm, q⟩ := h
  refine ⟨_, (@pss_cons _ _ _ _ _ (@ps_set _ _ 2 _ _ _ _ sc__law_digits.nd rfl (Or.inl rfl) (@pe_lst _ _ _ _ pa_nil) (by rfl) (by first | exact .inl rfl | exact .inr rfl | assumption)) (@pss_cons _ _ _ _ _ (@ps_for _ _ _ _ _ _ _ _ PassesOwn.never rfl (@pi_range1 _ _ _ _ _ _ rfl (B "range" (by decide)) (@pa_cons _ _ _ _ _ (@pe_ix _ _ _ _ _ _ _ ix_tup (pv 0) pe_int (fun _ _ => rfl)) pa_nil (by rfl)) (by rfl)) (@pg_name _ _ 3 _ sc__law_digits.nd rfl (Or.inl rfl) (by first | exact .inl rfl | exact .inr rfl | assumption)) (@pss_cons _ _ _ _ _ (@ps_expr _ _ _ _ (@pe_bm _ _ _ _ _ _ _ _ _ _ _ _ PySem.F.plainAttrs_list PySem.F.slot_list_append PySem.F.type_list_append mt_append (pv 2) (@pa_cons _ _ _ _ _ (@pe_op _ _ _ _ _ _ _ _ op_mod (pv 1) (@pe_ix _ _ _ _ _ _ _ ix_tup (pv 0) pe_int (fun _ _ => rfl))) pa_nil (by rfl)) (by rfl) (by rfl) (by rfl) (by rfl) (by rfl)) (by rfl)) (@pss_one _ _ _ (@ps_set _ _ 1 _ _ _ _ sc__law_digits.nd rfl (Or.inl rfl) (@pe_op _ _ _ _ _ _ _ _ op_fdv (pv 1) (@pe_ix _ _ _ _ _ _ _ ix_tup (pv 0) pe_int (fun _ _ => rfl))) (by rfl) (by first | exact .inl rfl | exact .inr rfl | assumption)))) (by intro _; rfl)) (@pss_one _ _ _ (@ps_ret _ _ _ _ (pv 2))))), ?_⟩
  refine ⟨szl 0, fun l hl => ?_⟩
  have g1 : Same H (upd H l (.lst [])) := same_new hl _
  refine ⟨_, rfl, a, _, _, _, rfl, rfl, Same.tup g1 hF, rfl, m, rfl, by lia, by lia, for_range (n := m) (fun i σ H' => H' = upd H l (.lst (digL p i x)) ∧ ∃ s, σ = [some (.ref a), some (.int ((x / p ^ i : Nat) : Int)), some (.ref l), s]) ⟨rfl, none, by simp; rfl⟩ ?_ ?_⟩
  · rintro i σ H' hi ⟨rfl, s, rfl⟩
    have g2 : Same H (upd H l (.lst (digL p i x))) := same_new hl _
    refine ⟨_, rfl, .inl ⟨rfl, _, SqL.of upd_same⟩, ?_⟩
    walk_at "rd"
    refine ⟨a, _, _, _, rfl, rfl, Same.tup g2 hF, rfl, ?_⟩
    walk_at "rd"
    refine ⟨by show (0 : Int) < p; lia, l, _, _, rfl, rfl, upd_same, by rw [digL_len]; exact Nat.lt_of_le_of_lt (show i ≤ 1000 by lia) (small1000 (Nat.le_refl _)), ?_⟩
    rw [upd_upd]
    have g3 : Same H (upd H l (.lst (digL p (i + 1) x))) := same_new hl _
    have e1 : digL p i x ++ [V.int (((x / p ^ i : Nat) : Int) % (p : Int))] = digL p (i + 1) x := by rw [digL_succ]; rfl
    rw [e1]
    refine ⟨_, rfl, _, rfl, a, _, _, _, rfl, rfl, Same.tup g3 hF, rfl, ?_⟩
    walk_at "rd"
    refine ⟨⟨by show (0 : Int) < p; lia, by show (p : Int) < 2 ^ 64; lia⟩, rfl, some (.int (0 + (i : Int))), ?_⟩
    rw [Nat.pow_succ, ← Nat.div_div_eq_div_mul]; rfl
  · rintro σ H' ⟨rfl, s, rfl⟩
    exact ⟨_, rfl, q l _ hl (same_new hl _) upd_same⟩
/-! number -/
noncomputable def num (p : Nat) : List Nat → Nat
  | [] => 0
  | d :: ds => num p ds * p + d
theorem num_dg {p : Nat} (hp : 2 ≤ p) : ∀ (ds : List Nat), (∀ d ∈ ds, d < p) → ∀ i, dg p i (num p ds) = ds.getD i 0
  | [], _, i => by simp [num, dg_nil]
  | d :: ds, h, i => by
    have hd : d < p := h d List.mem_cons_self
    have ih := num_dg hp ds fun x hx => h x (List.mem_cons_of_mem _ hx)
    cases i with
    | zero => rw [dg_zero]; show (num p ds * p + d) % p = d; rw [Nat.mul_comm, Nat.mul_add_mod, Nat.mod_eq_of_lt hd]
    | succ i =>
      rw [dg_succ]
      show dg p i ((num p ds * p + d) / p) = ds.getD i 0
      rw [Nat.mul_comm, Nat.mul_add_div (by lia), Nat.div_eq_of_lt hd, Nat.add_zero]
      exact ih i
noncomputable def sp_number (K : PySem.W.Frag) : Sp := fun vs H Q _ => ∃ (a b : Addr) (p m t : Nat) (ds : List Nat), vs = [.ref a, .ref b] ∧ Fld K H a p m t ∧ 2 ≤ p ∧ p ≤ 64 ∧ SqL K H b (ds.map Vn) ∧ ∀ H', Same H H' → Q (Vn (num p ds)) H'
theorem sc__law_number : FnScope ["_law_field_here", "_law_digits_here", "_law_found", "_law_digit"] ["_law_field_here", "_law_digits_here"] (defScope s__law_number) := ⟨rfl, rfl, rfl, by decide +kernel, rfl, by decide +kernel, by decide +kernel⟩
theorem ok_number (B : Bl mg) (F : Fun K "_law_number" "_law_number" s__law_number f fd) : FnOk P w K mg base CX0 1 f fd ["_law_field_here", "_law_digits_here"] (sp_number K) := by
  refine F.ok sc__law_number (fun vs H Q E h => ?_) (fun cdv A outer s H vs Q E hr h => ?_)
  · obtain ⟨a, b, p, m, t, ds, rfl, _⟩ := h; rfl
  obtain ⟨a, b, p, m, t, ds, rfl, hF, hp, hp2, hb, q⟩ := h
  refine ⟨_, (@pss_cons _ _ _ _ _ (@ps_set _ _ 2 _ _ _ _ sc__law_number.nd rfl (Or.inl rfl) pe_int (by rfl) (by first | exact .inl rfl | exact .inr rfl | assumption)) (@pss_cons _ _ _ _ _ (@ps_for _ _ _ _ _ _ _ _ PassesOwn.never rfl (@pi_list _ _ _ _ (@pe_rev _ _ _ _ _ _ _ _ (pv 1))) (@pg_name _ _ 3 _ sc__law_number.nd rfl (Or.inl rfl) (by first | exact .inl rfl | exact .inr rfl | assumption)) (@pss_one _ _ _ (@ps_set _ _ 2 _ _ _ _ sc__law_number.nd rfl (Or.inl rfl) (@pe_op _ _ _ _ _ _ _ _ op_add (@pe_op _ _ _ _ _ _ _ _ op_mul (pv 2) (@pe_ix _ _ _ _ _ _ _ ix_tup (pv 0) pe_int (fun _ _ => rfl))) (pv 3)) (by rfl) (by first | exact .inl rfl | exact .inr rfl | assumption))) (by intro _; rfl)) (@pss_one _ _ _ (@ps_ret _ _ _ _ (pv 2))))), ?_⟩
  refine ⟨_, rfl, b, _, rfl, hb, fun l hl => ?_⟩
  have g1 : Same H (upd H l (.lst (ds.map Vn).reverse)) := same_new hl _
  refine ⟨l, rfl, ⟨_, SqL.of upd_same⟩, for_list (xs := (ds.map Vn).reverse) (fun i σ H' => H' = upd H l (.lst (ds.map Vn).reverse) ∧ ∃ s, σ = [some (.ref a), some (.ref b), some (Vn (num p (ds.drop (ds.length - i)))), s]) ⟨rfl, none, by rw [Nat.sub_zero, List.drop_length]; rfl⟩ ?_ ?_ ?_⟩
  · rintro i σ H' hi ⟨rfl, _⟩; exact SqL.of upd_same
  · rintro i x σ H' hx ⟨rfl, s, rfl⟩
    have hi : i < ds.length := by have := (List.getElem?_eq_some_iff.mp hx).1; simpa using this
    have ex : x = Vn (ds[ds.length - 1 - i]) := by
      rw [List.getElem?_reverse (by simpa using hi), List.getElem?_map, List.length_map, List.getElem?_eq_getElem (by lia)] at hx
      exact (Option.some.inj hx).symm
    subst ex
    walk_at "rd"
    refine ⟨a, _, _, _, rfl, rfl, Same.tup g1 hF, rfl, ?_⟩
    walk_at "rd"
    refine ⟨.inr ⟨by show -(2 ^ 64 : Int) < (p : Int); lia, by show (p : Int) < 2 ^ 64; lia⟩, ?_⟩
    walk_at "rd"
    refine ⟨rfl, some (Vn (ds[ds.length - 1 - i])), ?_⟩
    have e : ds.drop (ds.length - (i + 1)) = ds[ds.length - 1 - i] :: ds.drop (ds.length - i) := by
      rw [show ds.length - (i + 1) = ds.length - 1 - i by lia, List.drop_eq_getElem_cons (by lia)]
      congr 2; lia
    rw [e]; rfl
  · rintro σ H' ⟨rfl, s, rfl⟩
    refine ⟨_, rfl, ?_⟩
    have e : ds.length - (ds.map Vn).reverse.length = 0 := by simp
    rw [e, List.drop_zero]
    exact q _ g1
/-! purse -/
noncomputable def sp_purse (K : PySem.W.Frag) : Sp := fun vs H Q _ => ∃ (a : Addr) (ns : List Int), vs = [.ref a] ∧ SqL K H a (ns.map V.int) ∧ ∀ r g H', H r = none → H g = none → Same H H' → Pu H' r g → Q (.ref r) H'
theorem sc__law_purse : FnScope ["_law_script", "_law_seed", "_law_great", "_law_cell"] ["_law_script"] (defScope s__law_purse) := ⟨rfl, rfl, rfl, by decide +kernel, rfl, by decide +kernel, by decide +kernel⟩
theorem nat_of {i : Int} (h : 0 ≤ i) : ∃ n : Nat, V.int i = Vn n := by obtain ⟨n, e⟩ := Int.eq_ofNat_of_zero_le h; exact ⟨n, by rw [e]⟩
theorem ok_purse (B : Bl mg) (F : Fun K "_law_purse" "_law_purse" s__law_purse f fd) : FnOk P w K mg base CX0 1 f fd ["_law_script"] (sp_purse K) := by
  refine F.ok sc__law_purse (fun vs H Q E h => ?_) (fun cdv A outer s H vs Q E hr h => ?_)
  · obtain ⟨a, ns, rfl, _⟩ := h; rfl
  obtain ⟨a, ns, rfl, ha, q⟩ := h
  refine ⟨_, (@pss_cons _ _ _ _ _ (@ps_par _ _ 1 2 _ _ _ _ _ _ _ _ _ _ _ rfl sc__law_purse.nd rfl rfl (by decide) rfl rfl (@pa_cons _ _ _ _ _ pe_int (@pa_cons _ _ _ _ _ (@pe_lst _ _ _ _ pa_nil) pa_nil (by rfl)) (by rfl)) rfl (by rfl)) (@pss_cons _ _ _ _ _ (@ps_for _ _ _ _ _ _ _ _ PassesOwn.never rfl (@pi_list _ _ _ _ (@pe_slice _ _ _ _ _ _ _ _ _ _ sl_list (pv 0) po_none (@po_some _ _ _ pe_int))) (@pg_name _ _ 3 _ sc__law_purse.nd rfl (Or.inl rfl) (by first | exact .inl rfl | exact .inr rfl | assumption)) (@pss_cons _ _ _ _ _ (@ps_set _ _ 1 _ _ _ _ sc__law_purse.nd rfl (Or.inl rfl) (@pe_op _ _ _ _ _ _ _ _ op_mod (@pe_op _ _ _ _ _ _ _ _ op_add (@pe_op _ _ _ _ _ _ _ _ op_add (@pe_op _ _ _ _ _ _ _ _ op_mul (pv 1) pe_int) (@pe_op _ _ _ _ _ _ _ _ op_mod (pv 3) pe_int)) pe_int) pe_int) (by rfl) (by first | exact .inl rfl | exact .inr rfl | assumption)) (@pss_one _ _ _ (@ps_if _ _ _ _ _ _ _ _ (@pt_cmpR _ _ _ _ _ _ _ _ op_ge (@pe_callB _ _ _ _ _ _ _ _ _ call_abs rfl (B "abs" (by decide)) boot_bi_abs (@pa_cons _ _ _ _ _ (pv 3) pa_nil (by rfl)) (by decide) (by decide) (by rfl) (by rfl)) (@pe_op _ _ _ _ _ _ _ _ op_pow pe_int pe_int) (nomark _)) (@pss_one _ _ _ (@ps_expr _ _ _ _ (@pe_bm _ _ _ _ _ _ _ _ _ _ _ _ PySem.F.plainAttrs_list PySem.F.slot_list_append PySem.F.type_list_append mt_append (pv 2) (@pa_cons _ _ _ _ _ (@pe_op _ _ _ _ _ _ _ _ op_mod (@pe_callB _ _ _ _ _ _ _ _ _ call_abs rfl (B "abs" (by decide)) boot_bi_abs (@pa_cons _ _ _ _ _ (pv 3) pa_nil (by rfl)) (by decide) (by decide) (by rfl) (by rfl)) (@pe_op _ _ _ _ _ _ _ _ op_mulB (@pe_op _ _ _ _ _ _ _ _ op_pow pe_int pe_int) (@pe_op _ _ _ _ _ _ _ _ op_pow pe_int pe_int))) pa_nil (by rfl)) (by rfl) (by rfl) (by rfl) (by rfl) (by rfl)) (by rfl))) pss_nil))) (by intro _; rfl)) (@pss_one _ _ _ (@ps_ret _ _ _ _ (@pe_lst _ _ _ _ (@pa_cons _ _ _ _ _ (pv 2) (@pa_cons _ _ _ _ _ (pv 1) (@pa_cons _ _ _ _ _ pe_int pa_nil (by rfl)) (by rfl)) (by rfl))))))), ?_⟩
  refine ⟨szl 0, fun g hg => ?_⟩
  have g1 : Same H (upd H g (.lst [])) := same_new hg _
  refine ⟨_, _, rfl, ?_⟩
  refine ⟨_, rfl, _, rfl, a, _, rfl, g1.seq ha, fun l hl => ?_⟩
  generalize hcut : cutV (ns.map V.int) none (some 40) = cs
  have hcs : ∀ x ∈ cs, ∃ i : Int, x = .int i := fun x hx => by
    rw [← hcut] at hx
    unfold cutV at hx
    obtain ⟨i, _, e⟩ := List.mem_map.mp (List.mem_of_mem_drop (List.mem_of_mem_take hx))
    exact ⟨i, e.symm⟩
  have hlen : cs.length ≤ 40 := by
    rw [← hcut]; unfold cutV
    rw [List.length_take, show HT.sIx (ns.map V.int).length (ns.map V.int).length (some 40) = min 40 (ns.map V.int).length from HT.sIx_nat _ _ 40]
    lia
  have hgl : l ≠ g := fun e => by rw [e, upd_same] at hl; cases hl
  refine ⟨l, rfl, ⟨_, SqL.of upd_same⟩, for_list (xs := cs) (fun i σ H' => (∃ (s : Nat) (x : Option V) (gs : List Nat), gs.length ≤ i ∧ σ = [some (.ref a), some (Vn s), some (.ref g), x] ∧ H' g = some (.lst (gs.map Vn))) ∧ Same H H' ∧ H' l = some (.lst cs))
    ⟨⟨7, none, [], Nat.le_refl _, rfl, by rw [upd_ne (Ne.symm hgl)]; exact upd_same⟩, g1.trans (same_new hl _), upd_same⟩ ?_ ?_ ?_⟩
  · rintro i σ H' hi ⟨_, _, h⟩; exact SqL.of h
  · rintro i x σ H' hx ⟨⟨s, x0, gs, hgs, rfl, hg'⟩, sm, hl'⟩
    obtain ⟨c, rfl⟩ := hcs x (List.mem_of_getElem? hx)
    have hi : i < cs.length := (List.getElem?_eq_some_iff.mp hx).1
    walk_at "rd"
    refine ⟨.inr ⟨by decide, by decide⟩, ?_⟩
    walk_at "rd"
    refine ⟨by show (0 : Int) < 2305843009213693951; decide, ?_⟩
    walk_at "rd"
    refine ⟨by show (0 : Int) < 2305843009213693951; decide, ?_⟩
    obtain ⟨s', es⟩ := nat_of (i := ((s : Int) * 1000003 + c % 2305843009213693951 + 12345) % 2305843009213693951) (Int.emod_nonneg _ (by decide))
    dsimp only [gName]; rw [es]
    refine ⟨_, rfl, _, rfl, _, _, rfl, rfl, ⟨by decide, by decide, by decide⟩, ?_⟩
    refine ⟨_, _, rfl, rfl, _, rfl, ?_⟩
    refine ite2 (fun c2 => ?_) (fun c2 => ?_)
    · refine ⟨_, rfl, .inl ⟨rfl, _, SqL.of hg'⟩, ?_⟩
      refine ⟨_, rfl, _, rfl, _, _, rfl, rfl, ⟨by decide, by decide, by decide⟩, ?_⟩
      refine ⟨_, _, rfl, rfl, ⟨by decide, by decide, by decide⟩, ?_⟩
      refine ⟨_, _, rfl, rfl, IntMulOk.of_bits (by decide +kernel) (by decide +kernel), ?_⟩
      refine ⟨_, _, rfl, rfl, by show (0 : Int) < 10 ^ Int.toNat 60 * 10 ^ Int.toNat 60; decide +kernel, ?_⟩
      obtain ⟨d, ed⟩ := nat_of (i := (if c < 0 then -c else c) % (10 ^ (60 : Int).toNat * 10 ^ (60 : Int).toNat)) (Int.emod_nonneg _ (by decide))
      dsimp only; rw [ed]
      refine ⟨g, _, _, rfl, rfl, hg', ?_, ⟨s', some (.int c), gs ++ [d], by simp; lia, rfl, by rw [upd_same, List.map_append]; rfl⟩, ?_, ?_⟩
      · rw [List.length_map]; exact Nat.lt_of_le_of_lt (show gs.length ≤ 1000 by lia) (small1000 (Nat.le_refl _))
      · intro b o e
        rw [upd_ne (ne_of_none e hg)]
        exact sm b o e
      · rw [upd_ne hgl]; exact hl'
    · exact ⟨⟨s', some (.int c), gs, by lia, rfl, hg'⟩, sm, hl'⟩
  · rintro σ H' ⟨⟨s, x, gs, hgs, rfl, hg'⟩, sm, _⟩
    refine ⟨_, rfl, _, rfl, szl 3, fun r hr => ?_⟩
    have ne : g ≠ r := ne_of_none hg' hr
    refine q r g _ (sm.free hr) hg (sm.trans (same_new hr _)) ⟨gs, s, 0, upd_same, ?_⟩
    rw [upd_ne ne]; exact hg'

/-! pick -/
theorem atI_head {α : Type} (x : α) (xs : List α) : atI (x :: xs) 0 = some x := atI_nat (j := 0) rfl
theorem ixN_zero {n : Nat} (h : 0 < n) : ixN n 0 = some 0 := by
  unfold ixN
  rw [if_pos (by decide), if_pos (by lia)]; rfl
theorem seq_cut {t u : TS} {D : Ends} {σ : St} {H : Hp} (Ex : St → Hp → Prop) (r : ∀ σ' H', Ex σ' H' → u D σ' H') (h : ∀ D' : Ends, D'.rt = D.rt → D'.bk = D.bk → D'.ct = D.ct → (∀ σ' H', Ex σ' H' → D'.nx σ' H') → t D' σ H) : tSeq t u D σ H := h _ rfl rfl rfl r
noncomputable def sp_pick : Sp := fun vs H Q _ => ∃ (a g : Addr) (n : Nat), vs = [.ref a, Vn n] ∧ Pu H a g ∧ 0 < n ∧ n < 2 ^ 200 ∧ ∀ (r : Nat) H', r < n → Pu H' a g → SameX a g H H' → Q (Vn r) H'
noncomputable def lenAt (H : Hp) (g : Addr) : Nat := match H g with
  | some (.lst xs) => xs.length
  | _ => 0
theorem lenAt_of {H : Hp} {g : Addr} {xs : List V} (h : H g = some (.lst xs)) : lenAt H g = xs.length := by unfold lenAt; rw [h]
theorem modn {x : Int} {n : Nat} (h : 0 < n) : ∃ r : Nat, r < n ∧ V.int (x % (n : Int)) = Vn r := by
  have h1 := Int.emod_nonneg x (show (n : Int) ≠ 0 by lia)
  have h2 := Int.emod_lt_of_pos x (show (0 : Int) < n by lia)
  exact ⟨(x % (n : Int)).toNat, by lia, by show V.int _ = V.int _; congr 1; lia⟩
theorem sc__law_pick : FnScope ["_law_purse_here", "_law_many", "_law_digit", "_law_turn", "_law_prime", "_law_once", "_law_mixed"] ["_law_purse_here", "_law_many"] (defScope s__law_pick) := ⟨rfl, rfl, rfl, by decide +kernel, rfl, by decide +kernel, by decide +kernel⟩
theorem ok_pick (B : Bl mg) (F : Fun K "_law_pick" "_law_pick" s__law_pick f fd) : FnOk P w K mg base CX0 1 f fd ["_law_purse_here", "_law_many"] sp_pick := by
  refine F.ok sc__law_pick (fun vs H Q E h => ?_) (fun cdv A outer s H vs Q E hr h => ?_)
  · obtain ⟨a, g, n, rfl, _⟩ := h; rfl
  obtain ⟨a, g, n, rfl, hP, hn, hn2, q⟩ := h
  have nag := hP.ne
  refine ⟨_, (@pss_cons _ _ _ _ _ (@ps_while _ _ _ _ _ _ PassesOwn.never (@PW.pt _ _ _ (@pw_and _ _ _ _ _ _ _ (@pt_cmpR _ _ _ _ _ _ _ _ (op_neE hr.units0) (@pe_ix _ _ _ _ _ _ _ ix_list (pv 0) pe_int (fun _ _ => rfl)) (@pe_lst _ _ _ _ pa_nil) (nomark _)) (@pw_and1 _ _ _ _ (@pt_cmpR _ _ _ _ _ _ _ _ op_eq (@pe_ix _ _ _ _ _ _ _ ix_list (@pe_ix _ _ _ _ _ _ _ ix_list (pv 0) pe_int (fun _ _ => rfl)) pe_int (fun _ _ => rfl)) pe_int (nomark _))))) (@pss_one _ _ _ (@ps_expr _ _ _ _ (@pe_bm _ _ _ _ _ _ _ _ _ _ _ _ PySem.F.plainAttrs_list PySem.F.slot_list_pop PySem.F.type_list_pop mt_popAt (@pe_ix _ _ _ _ _ _ _ ix_list (pv 0) pe_int (fun _ _ => rfl)) (@pa_cons _ _ _ _ _ pe_int pa_nil (by rfl)) (by rfl) (by rfl) (by rfl) (by rfl) (by rfl)) (by rfl)))) (@pss_cons _ _ _ _ _ (@ps_if _ _ _ _ _ _ _ _ (@pt_cmpR _ _ _ _ _ _ _ _ (op_neE hr.units0) (@pe_ix _ _ _ _ _ _ _ ix_list (pv 0) pe_int (fun _ _ => rfl)) (@pe_lst _ _ _ _ pa_nil) (nomark _)) (@pss_cons _ _ _ _ _ (@ps_set _ _ 2 _ _ _ _ sc__law_pick.nd rfl (Or.inl rfl) (@pe_op _ _ _ _ _ _ _ _ op_mod (@pe_ix _ _ _ _ _ _ _ ix_list (@pe_ix _ _ _ _ _ _ _ ix_list (pv 0) pe_int (fun _ _ => rfl)) pe_int (fun _ _ => rfl)) (pv 1)) (by rfl) (by first | exact .inl rfl | exact .inr rfl | assumption)) (@pss_cons _ _ _ _ _ (@ps_asg _ _ _ _ _ _ (@pe_op _ _ _ _ _ _ _ _ op_fdvB (@pe_ix _ _ _ _ _ _ _ ix_list (@pe_ix _ _ _ _ _ _ _ ix_list (pv 0) pe_int (fun _ _ => rfl)) pe_int (fun _ _ => rfl)) (pv 1)) (@pg_sub _ _ _ _ _ _ _ (@pe_ix _ _ _ _ _ _ _ ix_list (pv 0) pe_int (fun _ _ => rfl)) pe_int set_list (by intro _; rfl)) (by rfl) (by rfl) (by rfl)) (@pss_one _ _ _ (@ps_ret _ _ _ _ (pv 2))))) pss_nil) (@pss_cons _ _ _ _ _ (@ps_asg _ _ _ _ _ _ (@pe_op _ _ _ _ _ _ _ _ op_add (@pe_ix _ _ _ _ _ _ _ ix_list (pv 0) pe_int (fun _ _ => rfl)) pe_int) (@pg_sub _ _ _ _ _ _ _ (pv 0) pe_int set_list (by intro _; rfl)) (by rfl) (by rfl) (by rfl)) (@pss_cons _ _ _ _ _ (@ps_set _ _ 3 _ _ _ _ sc__law_pick.nd rfl (Or.inl rfl) (@pe_ix _ _ _ _ _ _ _ ix_list (pv 0) pe_int (fun _ _ => rfl)) (by rfl) (by first | exact .inl rfl | exact .inr rfl | assumption)) (@pss_cons _ _ _ _ _ (@ps_set _ _ 4 _ _ _ _ sc__law_pick.nd rfl (Or.inl rfl) (@pe_ix _ _ _ _ _ _ _ ix_list (@pe_lst _ _ _ _ (@pa_cons _ _ _ _ _ pe_int (@pa_cons _ _ _ _ _ pe_int (@pa_cons _ _ _ _ _ pe_int (@pa_cons _ _ _ _ _ pe_int (@pa_cons _ _ _ _ _ pe_int (@pa_cons _ _ _ _ _ pe_int (@pa_cons _ _ _ _ _ pe_int pa_nil (by rfl)) (by rfl)) (by rfl)) (by rfl)) (by rfl)) (by rfl)) (by rfl))) (@pe_op _ _ _ _ _ _ _ _ op_mod (pv 3) pe_int) (fun _ _ => rfl)) (by rfl) (by first | exact .inl rfl | exact .inr rfl | assumption)) (@pss_cons _ _ _ _ _ (@ps_set _ _ 5 _ _ _ _ sc__law_pick.nd rfl (Or.inl rfl) (@pe_op _ _ _ _ _ _ _ _ op_mod (@pe_op _ _ _ _ _ _ _ _ op_add (@pe_ix _ _ _ _ _ _ _ ix_list (pv 0) pe_int (fun _ _ => rfl)) (@pe_op _ _ _ _ _ _ _ _ op_mul pe_int (pv 3))) pe_int) (by rfl) (by first | exact .inl rfl | exact .inr rfl | assumption)) (@pss_cons _ _ _ _ _ (@ps_set _ _ 6 _ _ _ _ sc__law_pick.nd rfl (Or.inl rfl) (@pe_op _ _ _ _ _ _ _ _ op_mul (@pe_op _ _ _ _ _ _ _ _ op_mod (@pe_op _ _ _ _ _ _ _ _ op_pow (pv 5) pe_int) pe_int) (@pe_op _ _ _ _ _ _ _ _ op_add (@pe_op _ _ _ _ _ _ _ _ op_mul pe_int (pv 3)) pe_int)) (by rfl) (by first | exact .inl rfl | exact .inr rfl | assumption)) (@pss_one _ _ _ (@ps_ret _ _ _ _ (@pe_op _ _ _ _ _ _ _ _ op_mod (@pe_op _ _ _ _ _ _ _ _ op_fdv (@pe_op _ _ _ _ _ _ _ _ op_mod (@pe_op _ _ _ _ _ _ _ _ op_add (pv 6) (@pe_op _ _ _ _ _ _ _ _ op_fdv (@pe_ix _ _ _ _ _ _ _ ix_list (pv 0) pe_int (fun _ _ => rfl)) pe_int)) (pv 4)) pe_int) (pv 1))))))))))), ?_⟩
  refine seq_cut (fun σ H' => σ = [some (.ref a), some (Vn n), none, none, none, none, none] ∧ Pu H' a g ∧ SameX a g H H') ?_ ?_
  · rintro σ H' ⟨rfl, ⟨ns, x, t, ha, hg⟩, sm⟩
    refine seq_cut (fun σ H1 => ns = [] ∧ σ = [some (.ref a), some (Vn n), none, none, none, none, none] ∧ H1 a = some (.lst [.ref g, Vn x, Vn t]) ∧ H1 g = some (.lst []) ∧ SameX a g H H1) ?_ ?_
    · rintro σ H1 ⟨rfl, rfl, ha, hg, sm⟩
      -- the mixed number
      refine ⟨_, rfl, a, _, _, _, rfl, rfl, SqL.of ha, rfl, ?_⟩
      refine ⟨_, _, rfl, rfl, ?_⟩
      refine ⟨_, rfl, a, _, 2, 2, rfl, rfl, ha, rfl, ?_⟩
      have h1 : (upd H1 a (.lst [.ref g, Vn x, .int ((t : Int) + 1)])) a = some (.lst [.ref g, Vn x, Vn (t + 1)]) := upd_same
      have h2 : (upd H1 a (.lst [.ref g, Vn x, .int ((t : Int) + 1)])) g = some (.lst []) := by rw [upd_ne (Ne.symm nag)]; exact hg
      have h3 : SameX a g H (upd H1 a (.lst [.ref g, Vn x, .int ((t : Int) + 1)])) := fun b o n1 n2 e => by rw [upd_ne n1]; exact sm b o n1 n2 e
      change tSeq _ _ _ _ (upd H1 a (.lst [.ref g, Vn x, .int ((t : Int) + 1)]))
      generalize upd H1 a (.lst [.ref g, Vn x, .int ((t : Int) + 1)]) = H2 at h1 h2 h3 ⊢
      refine ⟨_, rfl, a, _, _, _, rfl, rfl, SqL.of h1, rfl, ?_⟩
      refine ⟨szl 7, fun l hl => ?_⟩
      have nla : a ≠ l := ne_of_none h1 hl
      have nlg : g ≠ l := ne_of_none h2 hl
      refine ⟨_, rfl, _, _, rfl, rfl, by show (0 : Int) < 7; decide, ?_⟩
      obtain ⟨k, hk, ek⟩ := modn (x := ((t + 1 : Nat) : Int)) (n := 7) (by lia)
      have hprime : ∃ pr : Nat, 61 < pr ∧ atI [V.int 2147483629, .int 2147483587, .int 2147483579, .int 2147483563, .int 2147483549, .int 2147483543, .int 2147483497] (k : Int) = some (Vn pr) := by
        have : k = 0 ∨ k = 1 ∨ k = 2 ∨ k = 3 ∨ k = 4 ∨ k = 5 ∨ k = 6 := by lia
        rcases this with rfl | rfl | rfl | rfl | rfl | rfl | rfl
        · exact ⟨2147483629, by decide, rfl⟩
        · exact ⟨2147483587, by decide, rfl⟩
        · exact ⟨2147483579, by decide, rfl⟩
        · exact ⟨2147483563, by decide, rfl⟩
        · exact ⟨2147483549, by decide, rfl⟩
        · exact ⟨2147483543, by decide, rfl⟩
        · exact ⟨2147483497, by decide, rfl⟩
      obtain ⟨pr, hpr, epr⟩ := hprime
      have ek' : ((t + 1 : Nat) : Int) % (7 : Int) = (k : Int) := by have := V.int.inj ek; exact this
      refine ⟨l, _, k, Vn pr, rfl, ek, SqL.of upd_same, epr, ?_⟩
      have h1' : (upd H2 l (.lst [V.int 2147483629, .int 2147483587, .int 2147483579, .int 2147483563, .int 2147483549, .int 2147483543, .int 2147483497])) a = some (.lst [.ref g, Vn x, Vn (t + 1)]) := by rw [upd_ne nla]; exact h1
      have h2' : (upd H2 l (.lst [V.int 2147483629, .int 2147483587, .int 2147483579, .int 2147483563, .int 2147483549, .int 2147483543, .int 2147483497])) g = some (.lst []) := by rw [upd_ne nlg]; exact h2
      have h3' : SameX a g H (upd H2 l (.lst [V.int 2147483629, .int 2147483587, .int 2147483579, .int 2147483563, .int 2147483549, .int 2147483543, .int 2147483497])) := h3.trans (Same.x (same_new hl _))
      change tSeq _ _ _ _ (upd H2 l (.lst [V.int 2147483629, .int 2147483587, .int 2147483579, .int 2147483563, .int 2147483549, .int 2147483543, .int 2147483497]))
      generalize upd H2 l (.lst [V.int 2147483629, .int 2147483587, .int 2147483579, .int 2147483563, .int 2147483549, .int 2147483543, .int 2147483497]) = H3 at h1' h2' h3' ⊢
      refine ⟨_, rfl, a, _, _, _, rfl, rfl, SqL.of h1', rfl, ?_⟩
      refine ⟨_, rfl, _, _, rfl, rfl, .inl ⟨by decide, by decide⟩, ?_⟩
      refine ⟨_, _, rfl, rfl, ?_⟩
      refine ⟨_, _, rfl, rfl, by show (0 : Int) < 2147483647; decide, ?_⟩
      obtain ⟨on, hon, eon⟩ := modn (x := (x : Int) + 65537 * ((t + 1 : Nat) : Int)) (n := 2147483647) (by decide)
      dsimp only [gName]
      rw [show V.int (((x : Int) + 65537 * ((t + 1 : Nat) : Int)) % 2147483647) = Vn on from eon]
      refine ⟨_, rfl, _, _, rfl, rfl, ⟨by decide, by decide, by show (on : Int).natAbs < 2 ^ 64; lia⟩, ?_⟩
      refine ⟨_, _, rfl, rfl, by show (0 : Int) < 2147483647; decide, ?_⟩
      obtain ⟨o5, ho5, eo5⟩ := modn (x := (on : Int) ^ (5 : Int).toNat) (n := 2147483647) (by decide)
      refine ⟨_, rfl, _, _, rfl, rfl, .inl ⟨by decide, by decide⟩, ?_⟩
      refine ⟨_, _, rfl, rfl, ?_⟩
      have b5 : (on : Int) ^ (5 : Int).toNat % 2147483647 = (o5 : Int) := V.int.inj eo5
      refine ⟨_, _, rfl, rfl, .inl ⟨by rw [b5]; lia, by rw [b5]; lia⟩, ?_⟩
      refine ⟨_, rfl, _, rfl, a, _, _, _, rfl, rfl, SqL.of h1', rfl, ?_⟩
      refine ⟨_, _, rfl, rfl, ⟨by show (0 : Int) < 2147483647; decide, by show (2147483647 : Int) < 2 ^ 64; decide⟩, ?_⟩
      refine ⟨_, _, rfl, rfl, ?_⟩
      refine ⟨_, rfl, _, _, rfl, rfl, by show (0 : Int) < (pr : Int); lia, ?_⟩
      refine ⟨_, _, rfl, rfl, ⟨by show (0 : Int) < 61; decide, by show (61 : Int) < 2 ^ 64; decide⟩, ?_⟩
      refine ⟨_, rfl, _, _, rfl, rfl, by show (0 : Int) < (n : Int); lia, ?_⟩
      obtain ⟨r, hr', er⟩ := modn (x := ((on : Int) ^ (5 : Int).toNat % 2147483647 * (2 * ((t + 1 : Nat) : Int) + 1) + (x : Int) / 2147483647) % (pr : Int) / 61) hn
      dsimp only
      rw [er]
      exact q r H3 hr' ⟨[], x, t + 1, h1', h2'⟩ h3'
    · intro D' hrt _ _ hD
      refine ⟨_, rfl, a, _, _, _, rfl, rfl, SqL.of ha, rfl, szl 0, fun l hl => ?_⟩
      have nla : a ≠ l := ne_of_none ha hl
      have nlg : g ≠ l := ne_of_none hg hl
      have hg1 : (upd H' l (.lst [])) g = some (.lst (ns.map Vn)) := by rw [upd_ne nlg]; exact hg
      have ha1 : (upd H' l (.lst [])) a = some (.lst [.ref g, Vn x, Vn t]) := by rw [upd_ne nla]; exact ha
      have sm1 : SameX a g H (upd H' l (.lst [])) := sm.trans (Same.x (same_new hl _))
      refine ⟨g, l, _, rfl, rfl, SqL.of hg1, SqL.of upd_same, _, rfl, ?_⟩
      refine ite2 (fun c => ?_) (fun c => ?_)
      · cases ns with
        | nil => exact absurd c (by simp)
        | cons d ns =>
          refine ⟨_, rfl, a, _, _, _, rfl, rfl, SqL.of ha1, rfl, ?_⟩
          refine ⟨g, _, _, _, rfl, rfl, SqL.of hg1, atI_head _ _, ?_⟩
          refine ⟨_, rfl, _, _, rfl, rfl, by show (0 : Int) < (n : Int); lia, ?_⟩
          refine ⟨_, rfl, a, _, _, _, rfl, rfl, SqL.of ha1, rfl, ?_⟩
          refine ⟨g, _, _, _, rfl, rfl, SqL.of hg1, atI_head _ _, ?_⟩
          refine ⟨_, rfl, _, _, rfl, rfl, ⟨by show (0 : Int) < (n : Int); lia, by show (n : Int) < 2 ^ 1000; lia⟩, ?_⟩
          refine ⟨_, rfl, a, _, _, _, rfl, rfl, SqL.of ha1, rfl, ?_⟩
          refine ⟨g, _, 0, 0, rfl, rfl, hg1, ixN_zero (by simp), ?_⟩
          refine ⟨_, rfl, ?_⟩
          rw [hrt]
          refine q (d % n) _ (Nat.mod_lt _ hn) ⟨(d / n) :: ns, x, t, by rw [upd_ne nag]; exact ha1, upd_same⟩ fun b o n1 n2 e => by rw [upd_ne n2]; exact sm1 b o n1 n2 e
      · cases ns with
        | nil => exact hD _ _ ⟨rfl, rfl, ha1, hg1, sm1⟩
        | cons d ns => exact absurd (by simp) c
  · intro D' _ _ _ hD
    refine while_go (fun σ H' => σ = [some (.ref a), some (Vn n), none, none, none, none, none] ∧ Pu H' a g ∧ SameX a g H H') (fun _ H' => lenAt H' g) ⟨rfl, hP, SameX.refl⟩ ?_
    rintro σ H' ⟨rfl, ⟨ns, x, t, ha, hg⟩, sm⟩
    refine ⟨_, rfl, a, _, _, _, rfl, rfl, SqL.of ha, rfl, szl 0, fun l hl => ?_⟩
    have nla : a ≠ l := ne_of_none ha hl
    have nlg : g ≠ l := ne_of_none hg hl
    have hg1 : (upd H' l (.lst [])) g = some (.lst (ns.map Vn)) := by rw [upd_ne nlg]; exact hg
    have ha1 : (upd H' l (.lst [])) a = some (.lst [.ref g, Vn x, Vn t]) := by rw [upd_ne nla]; exact ha
    have sm1 : SameX a g H (upd H' l (.lst [])) := sm.trans (Same.x (same_new hl _))
    refine ⟨g, l, _, rfl, rfl, SqL.of hg1, SqL.of upd_same, _, rfl, ?_⟩
    refine ite2 (fun c => ?_) (fun c => ?_)
    · cases ns with
      | nil => exact absurd c (by simp)
      | cons d ns =>
        refine ⟨_, rfl, a, _, _, _, rfl, rfl, SqL.of ha1, rfl, ?_⟩
        refine ⟨g, _, _, _, rfl, rfl, SqL.of hg1, atI_head _ _, ?_⟩
        refine ⟨rfl, _, rfl, ?_⟩
        refine ite2 (fun c => ?_) (fun c => ?_)
        · refine ⟨fun σ' H'' => σ' = [some (.ref a), some (Vn n), none, none, none, none, none] ∧ H'' = upd (upd H' l (.lst [])) g (.lst (ns.map Vn)), ?_, ?_⟩
          · rintro σ' H'' ⟨rfl, rfl⟩
            refine ⟨_, ?_, rfl, rfl, ⟨ns, x, t, by rw [upd_ne nag]; exact ha1, upd_same⟩, fun b o n1 n2 e => by rw [upd_ne n2]; exact sm1 b o n1 n2 e⟩
            rw [lenAt_of hg, lenAt_of (xs := ns.map Vn) upd_same]; simp
          · refine ⟨_, rfl, a, _, _, _, rfl, rfl, SqL.of ha1, rfl, .inl ⟨rfl, _, SqL.of hg1⟩, ?_⟩
            exact ⟨g, _, 0, 0, Vn d, rfl, rfl, hg1, by decide, by decide, (ixN_seq (ixN_zero (by simp))).1, rfl, rfl, rfl⟩
        · exact hD _ _ ⟨rfl, ⟨d :: ns, x, t, ha1, hg1⟩, sm1⟩
    · refine ite2 (fun c2 => absurd c2 (by decide)) (fun _ => ?_)
      exact hD _ _ ⟨rfl, ⟨ns, x, t, ha1, hg1⟩, sm1⟩
end
end My

end
section
-- text: P3
set_option Elab.async false
set_option linter.all false
set_option maxRecDepth 100000
set_option maxHeartbeats 4000000
namespace My
open PySem L2 Dg
local macro_rules | `(tactic| walk_at "rd") => `(tactic| repeat (first | refine ⟨_, rfl, ?_⟩ | refine ⟨_, _, rfl, rfl, ?_⟩))
/-! sums -/
noncomputable def sumN : Nat → (Nat → Nat) → Nat
  | 0, _ => 0
  | n + 1, g => sumN n g + g n
theorem sumN_front : ∀ (n : Nat) (g : Nat → Nat), sumN (n + 1) g = g 0 + sumN n fun j => g (j + 1)
  | 0, g => by simp [sumN]
  | n + 1, g => by rw [sumN, sumN_front n g, sumN]; lia
theorem sumN_congr {n : Nat} {g h : Nat → Nat} (e : ∀ j, j < n → g j = h j) : sumN n g = sumN n h := by
  induction n with
  | zero => rfl
  | succ n ih => rw [sumN, sumN, ih fun j hj => e j (by lia), e n (by lia)]
noncomputable def shN (j : Nat) (y : Nat → Nat) (i : Nat) : Nat := if j ≤ i then y (i - j) else 0
theorem convF_sum : ∀ (k : Nat) (f y : Nat → Nat) (i : Nat), convF k f y i = sumN k fun j => f j * shN j y i
  | 0, _, _, _ => rfl
  | k + 1, f, y, i => by
    rw [sumN_front]
    show f 0 * y i + shiftF (convF k (fun j => f (j + 1)) y) i = f 0 * shN 0 y i + _
    congr 1
    unfold shiftF
    by_cases h : i = 0
    · rw [if_pos h]
      subst h
      have : ∀ n, sumN n (fun j => f (j + 1) * shN (j + 1) y 0) = 0 := fun n => by
        induction n with
        | zero => rfl
        | succ n ih => rw [sumN, ih]; unfold shN; rw [if_neg (by lia)]; simp
      exact (this k).symm
    · rw [if_neg h, convF_sum k]
      refine sumN_congr fun j _ => ?_
      congr 1
      unfold shN
      by_cases h2 : j + 1 ≤ i
      · rw [if_pos h2, if_pos (by lia)]; congr 1; lia
      · rw [if_neg h2, if_neg (by lia)]
/-! rows of rests -/
noncomputable def rowL (p n : Nat) (c : Nat → Nat) : List V := (List.range n).map fun i => Vn (c i % p)
theorem rowL_len (p n : Nat) (c : Nat → Nat) : (rowL p n c).length = n := by simp [rowL]
theorem rowL_get {p n : Nat} (c : Nat → Nat) {i : Nat} (h : i < n) : (rowL p n c)[i]? = some (Vn (c i % p)) := by
  unfold rowL; rw [List.getElem?_map, List.getElem?_range h]; rfl
theorem rowL_at {p n : Nat} (c : Nat → Nat) {i : Nat} {j : Int} (h : i < n) (e : j = (i : Int)) : atI (rowL p n c) j = some (Vn (c i % p)) := by
  subst e; exact atI_nat (rowL_get c h)
theorem rowL_congr {p n : Nat} {c c' : Nat → Nat} (h : ∀ i, i < n → c i % p = c' i % p) : rowL p n c = rowL p n c' := by
  unfold rowL
  refine List.map_congr_left fun i hi => ?_
  rw [h i (List.mem_range.mp hi)]
theorem rowL_set {p n : Nat} (c : Nat → Nat) {s v : Nat} (h : s < n) : (rowL p n c).set s (Vn (v % p)) = rowL p n fun i => if i = s then v else c i := by
  refine List.ext_getElem? fun i => ?_
  by_cases hi : i < n
  · rw [rowL_get _ hi, List.getElem?_set]
    by_cases e : s = i
    · subst e; rw [if_pos rfl, if_pos (by rw [rowL_len]; exact hi), if_pos rfl]
    · rw [if_neg e, rowL_get _ hi, if_neg (Ne.symm e)]
  · rw [List.getElem?_eq_none (by rw [List.length_set, rowL_len]; lia), List.getElem?_eq_none (by rw [rowL_len]; lia)]
theorem row_add {p n : Nat} {c : Nat → Nat} {s v : Nat} (h : s < n) {c' : Nat → Nat} (hc : ∀ i, i < n → c' i % p = (if i = s then c s % p + v else c i) % p) : (rowL p n c).set s (Vn ((c s % p + v) % p)) = rowL p n c' :=
  (rowL_set c h).trans (rowL_congr fun i hi => (hc i hi).symm)
theorem ixN_nat {n s : Nat} {j : Int} (h : s < n) (e : j = (s : Int)) : ixN n j = some s := by
  subst e
  unfold ixN
  rw [if_pos (by lia), if_pos (by lia)]; simp
theorem rep_zero (p k : Nat) (hp : 0 < p) : (List.replicate k [V.int 0]).flatten = rowL p k fun _ => 0 := by
  induction k with
  | zero => rfl
  | succ k ih =>
    rw [List.replicate_succ', List.flatten_append, ih]
    unfold rowL
    rw [List.range_succ, List.map_append]
    simp
section
variable {P : Program} {w : World} {K : PySem.W.Frag} {mg : Str → Option Value} {base : Heap} {f : Addr} {fd : FuncData}
/-! product -/
noncomputable def sp_product (K : PySem.W.Frag) : Sp := fun vs H Q _ => ∃ (a : Addr) (p m t x y : Nat), vs = [.ref a, .int x, .int y] ∧ Fld K H a p m t ∧ 2 ≤ p ∧ 1 ≤ m ∧ p ^ m ≤ 64 ∧ t < p ^ m ∧ x < p ^ m ∧ y < p ^ m ∧
  ∀ (r : Nat) H', Same H H' → r < p ^ m → (∀ i, i < m → dg p i r = tn m (fun i => dg p i t) m (fun i => dg p i x) (fun i => dg p i y) i % p) → Q (.int r) H'
theorem digL_get {p m x i : Nat} (h : i < m) : (digL p m x)[i]? = some (Vn (dg p i x)) := by
  unfold digL; rw [List.getElem?_map, List.getElem?_range h]; rfl
theorem sx_set {l : Addr} {H H' : Hp} {o : HO} (h : SameX l l H H') : SameX l l H (upd H' l o) := fun b u n1 n2 e => by rw [upd_ne n1]; exact h b u n1 n2 e
theorem sx_new {l p : Addr} {H H' : Hp} {o : HO} (h : SameX l l H H') (hp : H' p = none) : SameX l l H (upd H' p o) := h.trans (Same.x (same_new hp o))
theorem sx_same {l : Addr} {H H' : Hp} (h : SameX l l H H') (hl : H l = none) : Same H H' := fun b o e => h b o (ne_of_none e hl) (ne_of_none e hl) e
theorem sc__law_product : FnScope ["_law_field_here", "_law_one", "_law_other", "_law_p", "_law_m", "_law_top", "_law_row", "_law_j", "_law_digit", "_law_k", "_law_by", "_law_place", "_law_at"] ["_law_field_here", "_law_one", "_law_other"] (defScope s__law_product) := ⟨rfl, rfl, rfl, by decide +kernel, rfl, by decide +kernel, by decide +kernel⟩
theorem ok_product (B : Bl mg) (h__law_digits : Has P w K mg base 1 "_law_digits" ["_law_field_here", "_law_thing"] (sp_digits K)) (h__law_number : Has P w K mg base 1 "_law_number" ["_law_field_here", "_law_digits_here"] (sp_number K)) (F : Fun K "_law_product" "_law_product" s__law_product f fd) : FnOk P w K mg base CX0 2 f fd ["_law_field_here", "_law_one", "_law_other"] (sp_product K) := by
  refine F.ok sc__law_product (fun vs H Q E h => ?_) (fun cdv A outer s H vs Q E hr h => ?_)
  · obtain ⟨a, p, m, t, x, y, rfl, _⟩ := h; rfl
  obtain ⟨a, p, m, t, x, y, rfl, hF, hp, hm, hpm, ht, hx, hy, q⟩ := h
  have hp2 := p_le hp hm hpm
  have hm6 := m_le hp hpm
  refine ⟨_, (@pss_cons _ _ _ _ _ (@ps_asg _ _ _ _ _ _ (pv 0) (@pg_tup _ _ _ _ _ _ rfl (@pgs_cons _ _ _ _ _ (@pg_name _ _ 3 _ sc__law_product.nd rfl (Or.inl rfl) (by first | exact .inl rfl | exact .inr rfl | assumption)) (@pgs_cons _ _ _ _ _ (@pg_name _ _ 4 _ sc__law_product.nd rfl (Or.inl rfl) (by first | exact .inl rfl | exact .inr rfl | assumption)) (@pgs_cons _ _ _ _ _ (@pg_name _ _ 5 _ sc__law_product.nd rfl (Or.inl rfl) (by first | exact .inl rfl | exact .inr rfl | assumption)) pgs_nil (by rfl)) (by rfl)) (by rfl)) (by rfl) (by rfl)) (by rfl) (by rfl) (by rfl)) (@pss_cons _ _ _ _ _ (@ps_set _ _ 6 _ _ _ _ sc__law_product.nd rfl (Or.inl rfl) (@pe_op _ _ _ _ _ _ _ _ op_rep (@pe_lst _ _ _ _ (@pa_cons _ _ _ _ _ pe_int pa_nil (by rfl))) (@pe_op _ _ _ _ _ _ _ _ op_sub (@pe_op _ _ _ _ _ _ _ _ op_mul pe_int (pv 4)) pe_int)) (by rfl) (by first | exact .inl rfl | exact .inr rfl | assumption)) (@pss_cons _ _ _ _ _ (@ps_for _ _ _ _ _ _ _ _ PassesOwn.never rfl (@pi_enum _ _ _ _ _ _ _ _ rfl (B "enumerate" (by decide)) (@pa_cons _ _ _ _ _ (@pe_callH _ _ _ _ _ _ _ _ _ _ _ h__law_digits hr (by decide) rfl (@pa_cons _ _ _ _ _ (pv 0) (@pa_cons _ _ _ _ _ (pv 1) pa_nil (by rfl)) (by rfl)) (by decide) (by rfl) (by rfl)) pa_nil (by rfl)) (by rfl)) (@pg_tup _ _ _ _ _ _ rfl (@pgs_cons _ _ _ _ _ (@pg_name _ _ 7 _ sc__law_product.nd rfl (Or.inl rfl) (by first | exact .inl rfl | exact .inr rfl | assumption)) (@pgs_cons _ _ _ _ _ (@pg_name _ _ 8 _ sc__law_product.nd rfl (Or.inl rfl) (by first | exact .inl rfl | exact .inr rfl | assumption)) pgs_nil (by rfl)) (by rfl)) (by rfl) (by rfl)) (@pss_one _ _ _ (@ps_for _ _ _ _ _ _ _ _ PassesOwn.never rfl (@pi_enum _ _ _ _ _ _ _ _ rfl (B "enumerate" (by decide)) (@pa_cons _ _ _ _ _ (@pe_callH _ _ _ _ _ _ _ _ _ _ _ h__law_digits hr (by decide) rfl (@pa_cons _ _ _ _ _ (pv 0) (@pa_cons _ _ _ _ _ (pv 2) pa_nil (by rfl)) (by rfl)) (by decide) (by rfl) (by rfl)) pa_nil (by rfl)) (by rfl)) (@pg_tup _ _ _ _ _ _ rfl (@pgs_cons _ _ _ _ _ (@pg_name _ _ 9 _ sc__law_product.nd rfl (Or.inl rfl) (by first | exact .inl rfl | exact .inr rfl | assumption)) (@pgs_cons _ _ _ _ _ (@pg_name _ _ 10 _ sc__law_product.nd rfl (Or.inl rfl) (by first | exact .inl rfl | exact .inr rfl | assumption)) pgs_nil (by rfl)) (by rfl)) (by rfl) (by rfl)) (@pss_one _ _ _ (@ps_asg _ _ _ _ _ _ (@pe_op _ _ _ _ _ _ _ _ op_mod (@pe_op _ _ _ _ _ _ _ _ op_add (@pe_ix _ _ _ _ _ _ _ ix_list (pv 6) (@pe_op _ _ _ _ _ _ _ _ op_add (pv 7) (pv 9)) (fun _ _ => rfl)) (@pe_op _ _ _ _ _ _ _ _ op_mul (pv 8) (pv 10))) (pv 3)) (@pg_sub _ _ _ _ _ _ _ (pv 6) (@pe_op _ _ _ _ _ _ _ _ op_add (pv 7) (pv 9)) set_list (by intro _; rfl)) (by rfl) (by rfl) (by rfl))) (by intro _; rfl))) (by intro _; rfl)) (@pss_cons _ _ _ _ _ (@ps_for _ _ _ _ _ _ _ _ PassesOwn.never rfl (@pi_down _ _ _ _ _ _ _ _ rfl (B "range" (by decide)) (@pa_cons _ _ _ _ _ (@pe_op _ _ _ _ _ _ _ _ op_sub (@pe_op _ _ _ _ _ _ _ _ op_mul pe_int (pv 4)) pe_int) (@pa_cons _ _ _ _ _ (@pe_op _ _ _ _ _ _ _ _ op_sub (pv 4) pe_int) (@pa_cons _ _ _ _ _ (@pe_un _ _ _ _ _ _ un_neg pe_int) pa_nil (by rfl)) (by rfl)) (by rfl)) (by rfl) (by rfl)) (@pg_name _ _ 11 _ sc__law_product.nd rfl (Or.inl rfl) (by first | exact .inl rfl | exact .inr rfl | assumption)) (@pss_one _ _ _ (@ps_for _ _ _ _ _ _ _ _ PassesOwn.never rfl (@pi_enum _ _ _ _ _ _ _ _ rfl (B "enumerate" (by decide)) (@pa_cons _ _ _ _ _ (@pe_callH _ _ _ _ _ _ _ _ _ _ _ h__law_digits hr (by decide) rfl (@pa_cons _ _ _ _ _ (pv 0) (@pa_cons _ _ _ _ _ (pv 5) pa_nil (by rfl)) (by rfl)) (by decide) (by rfl) (by rfl)) pa_nil (by rfl)) (by rfl)) (@pg_tup _ _ _ _ _ _ rfl (@pgs_cons _ _ _ _ _ (@pg_name _ _ 9 _ sc__law_product.nd rfl (Or.inl rfl) (by first | exact .inl rfl | exact .inr rfl | assumption)) (@pgs_cons _ _ _ _ _ (@pg_name _ _ 8 _ sc__law_product.nd rfl (Or.inl rfl) (by first | exact .inl rfl | exact .inr rfl | assumption)) pgs_nil (by rfl)) (by rfl)) (by rfl) (by rfl)) (@pss_cons _ _ _ _ _ (@ps_set _ _ 12 _ _ _ _ sc__law_product.nd rfl (Or.inl rfl) (@pe_op _ _ _ _ _ _ _ _ op_add (@pe_op _ _ _ _ _ _ _ _ op_sub (pv 11) (pv 4)) (pv 9)) (by rfl) (by first | exact .inl rfl | exact .inr rfl | assumption)) (@pss_one _ _ _ (@ps_asg _ _ _ _ _ _ (@pe_op _ _ _ _ _ _ _ _ op_mod (@pe_op _ _ _ _ _ _ _ _ op_add (@pe_ix _ _ _ _ _ _ _ ix_list (pv 6) (pv 12) (fun _ _ => rfl)) (@pe_op _ _ _ _ _ _ _ _ op_mul (@pe_ix _ _ _ _ _ _ _ ix_list (pv 6) (pv 11) (fun _ _ => rfl)) (pv 8))) (pv 3)) (@pg_sub _ _ _ _ _ _ _ (pv 6) (pv 12) set_list (by intro _; rfl)) (by rfl) (by rfl) (by rfl)))) (by intro _; rfl))) (by intro _; rfl)) (@pss_one _ _ _ (@ps_ret _ _ _ _ (@pe_callH _ _ _ _ _ _ _ _ _ _ _ h__law_number hr (by decide) rfl (@pa_cons _ _ _ _ _ (pv 0) (@pa_cons _ _ _ _ _ (@pe_slice _ _ _ _ _ _ _ _ _ _ sl_list (pv 6) po_none (@po_some _ _ _ (pv 4))) pa_nil (by rfl)) (by rfl)) (by decide) (by rfl) (by rfl)))))))), ?_⟩
  refine ⟨_, rfl, a, _, rfl, hF, rfl, _, _, rfl, _, _, rfl, _, _, rfl, rfl, ?_⟩
  refine ⟨szl 1, fun l0 hl0 => ?_⟩
  refine ⟨_, rfl, _, _, rfl, rfl, .inl ⟨by decide, by decide⟩, ?_⟩
  refine ⟨_, _, rfl, rfl, ?_⟩
  have e21 : (2 * (m : Int) - 1).toNat = 2 * m - 1 := by lia
  refine ⟨l0, _, _, rfl, rfl, upd_same, by show -(2 ^ 63) ≤ 2 * (m : Int) - 1; lia, by show 2 * (m : Int) - 1 < 2 ^ 63; lia, ?_, fun l hl => ?_⟩
  · show 1 * (2 * (m : Int) - 1).toNat ≤ sizeLine
    rw [e21]; exact szl _
  dsimp only
  rw [e21, rep_zero p _ (by lia)]
  have hlH : H l = none := (same_new hl0 (.lst [.int 0])).free hl
  -- the products
  refine seq_cut (fun σ H' => ∃ s7 s8 s9 s10 s11 s12, σ = [some (.ref a), some (Vn x), some (Vn y), some (Vn p), some (Vn m), some (Vn t), some (.ref l), s7, s8, s9, s10, s11, s12] ∧ SameX l l H H' ∧ H' l = some (.lst (rowL p (2 * m - 1) (convF m (fun i => dg p i x) fun i => dg p i y)))) ?_ ?_
  · rintro σ H' ⟨s7, s8, s9, s10, s11, s12, rfl, sx, hrow⟩
    refine seq_cut (fun σ H' => ∃ s7 s8 s9 s10 s11 s12, σ = [some (.ref a), some (Vn x), some (Vn y), some (Vn p), some (Vn m), some (Vn t), some (.ref l), s7, s8, s9, s10, s11, s12] ∧ SameX l l H H' ∧ ∃ c : Nat → Nat, H' l = some (.lst (rowL p (2 * m - 1) c)) ∧ ∀ i, i < m → c i = tn m (fun i => dg p i t) m (fun i => dg p i x) (fun i => dg p i y) i) ?_ ?_
    · rintro σ H' ⟨s7, s8, s9, s10, s11, s12, rfl, sx, c, hrow, hc⟩
      refine ⟨_, rfl, _, rfl, _, rfl, _, rfl, l, _, rfl, SqL.of hrow, fun l2 hl2 => ?_⟩
      have sm2 : Same H (upd H' l2 (.lst (cutV (rowL p (2 * m - 1) c) none (some (m : Int))))) := (sx_same sx hlH).trans (same_new hl2 _)
      refine ⟨a, l2, p, m, t, (List.range m).map fun i => c i % p, rfl, Same.tup sm2 hF, hp, hp2, ?_, fun H3 s3 => ?_⟩
      · refine SqL.of ?_
        rw [upd_same]
        congr 2
        unfold cutV
        rw [HT.sIx_none, show HT.sIx (rowL p (2 * m - 1) c).length (rowL p (2 * m - 1) c).length (some (m : Int)) = min m (rowL p (2 * m - 1) c).length from HT.sIx_nat _ _ m, rowL_len, List.drop_zero, show min m (2 * m - 1) - 0 = m by lia]
        unfold rowL
        rw [← List.map_take, List.take_range, List.map_map, show min m (2 * m - 1) = m by lia]
        rfl
      · have hds : ∀ d ∈ (List.range m).map (fun i => c i % p), d < p := fun d hd => by
          obtain ⟨i, _, rfl⟩ := List.mem_map.mp hd
          exact Nat.mod_lt _ (by lia)
        have hg : ∀ i, ((List.range m).map fun i => c i % p).getD i 0 = if i < m then c i % p else 0 := fun i => by
          by_cases hi : i < m
          · rw [if_pos hi, List.getD, List.getElem?_map, List.getElem?_range hi]; rfl
          · rw [if_neg hi, List.getD, List.getElem?_eq_none (by simpa using hi)]; rfl
        refine q _ _ (sm2.trans s3) (lt_of_zero hp fun i hi => ?_) fun i hi => ?_
        · rw [num_dg hp _ hds, hg, if_neg (by lia)]
        · rw [num_dg hp _ hds, hg, if_pos hi, hc i hi]
    · intro D' _ _ _ hD
      refine ⟨_, rfl, _, _, rfl, rfl, .inl ⟨by decide, by decide⟩, ?_⟩
      refine ⟨_, _, rfl, rfl, ?_⟩
      refine ⟨_, rfl, _, _, rfl, rfl, ?_⟩
      refine ⟨_, rfl, ?_⟩
      refine ⟨2 * (m : Int) - 2, (m : Int) - 1, rfl, ⟨by lia, by lia, by lia, by lia⟩, ?_⟩
      refine for_any seqs_down (fun i σ H' => ∃ s7 s8 s9 s10 s11 s12, σ = [some (.ref a), some (Vn x), some (Vn y), some (Vn p), some (Vn m), some (Vn t), some (.ref l), s7, s8, s9, s10, s11, s12] ∧ SameX l l H H' ∧ ∃ c : Nat → Nat, H' l = some (.lst (rowL p (2 * m - 1) c)) ∧
        redF m (fun i => dg p i t) (m - 1 - i) c = redF m (fun i => dg p i t) (m - 1) (convF m (fun i => dg p i x) fun i => dg p i y)) ⟨s7, s8, s9, s10, s11, s12, rfl, sx, _, hrow, rfl⟩ (fun _ _ _ _ _ => trivial) ?_ ?_
      · rintro i v σ H' H'' hi ⟨s7, s8, s9, s10, s11, s12, rfl, sx, c, hrow, hred⟩ ⟨rfl, rfl⟩
        obtain ⟨j, hj⟩ : ∃ j, m - 1 - i = j + 1 := ⟨m - 1 - i - 1, by lia⟩
        have eq : V.int (2 * (m : Int) - 2 - (i : Int)) = Vn (m + j) := by show V.int _ = V.int _; congr 1; lia
        have hq : m + j < 2 * m - 1 := by lia
        dsimp only [gName]
        rw [eq]
        refine ⟨_, rfl, _, rfl, a, p, m, t, t, rfl, Same.tup (sx_same sx hlH) hF, hp, hp2, by lia, fun b2 H2 hb2' s2 e2 => ?_⟩
        have nb2 : b2 ≠ l := fun e => by rw [e, hrow] at hb2'; cases hb2'
        refine ⟨false, b2, rfl, ⟨_, SqL.of e2⟩, ?_⟩
        refine for_any (seqs_enum (K := K) (b := false) (l := b2) (xs := digL p m t)) (fun k σ H' => ∃ s7 s8 s9 s10 s12, σ = [some (.ref a), some (Vn x), some (Vn y), some (Vn p), some (Vn m), some (Vn t), some (.ref l), s7, s8, s9, s10, some (Vn (m + j)), s12] ∧ SameX l l H H' ∧ H' b2 = some (.lst (digL p m t)) ∧
          H' l = some (.lst (rowL p (2 * m - 1) fun i => c i + if j ≤ i ∧ i < j + k then c (m + j) * dg p (i - j) t else 0))) ⟨s7, s8, s9, s10, s12, rfl, sx.trans (Same.x s2), e2, ?_⟩ ?_ ?_ ?_
        · rw [s2 _ _ hrow]
          congr 2
          refine rowL_congr fun i _ => ?_
          rw [if_neg (by lia)]; rfl
        · rintro i σ H' _ ⟨s7, s8, s9, s10, s12, rfl, _, h, _⟩; exact SqL.of h
        · rintro k v σ H' H'' hk ⟨s7, s8, s9, s10, s12, rfl, sx, hc, hrow⟩ ⟨T, u, rfl, eu, hT, rfl⟩
          rw [digL_len] at hk
          rw [digL_get hk] at eu; cases eu
          refine ⟨T, _, rfl, SqT.of upd_same, rfl, _, _, rfl, _, _, rfl, rfl, ?_⟩
          have sx3 : SameX l l H (upd H' T (.tup [.int k, Vn (dg p k t)])) := sx_new sx hT
          have hc3 : (upd H' T (.tup [.int k, Vn (dg p k t)])) b2 = some (.lst (digL p m t)) := by rw [upd_ne (ne_of_none hc hT)]; exact hc
          have hr3 := (upd_ne (o := .tup [.int k, Vn (dg p k t)]) (ne_of_none hrow hT)).trans hrow
          generalize upd H' T (.tup [.int k, Vn (dg p k t)]) = G at sx3 hc3 hr3 ⊢
          have hjk : j + k < 2 * m - 1 := by lia
          have hmp : ∀ z, z % p < p := fun z => Nat.mod_lt _ (by lia)
          refine ⟨_, rfl, _, rfl, _, _, rfl, rfl, ?_⟩
          refine ⟨_, rfl, _, _, rfl, rfl, ?_⟩
          have eat : V.int (((m + j : Nat) : Int) - (m : Int) + ((k : Nat) : Int)) = Vn (j + k) := by show V.int _ = V.int _; congr 1; lia
          dsimp only [gName]
          rw [eat]
          refine ⟨_, rfl, _, rfl, l, _, _, _, rfl, rfl, SqL.of hr3, rowL_at _ hjk rfl, ?_⟩
          refine ⟨_, rfl, _, rfl, l, _, _, _, rfl, rfl, SqL.of hr3, rowL_at _ hq rfl, ?_⟩
          have hmq := hmp (c (m + j) + if j ≤ m + j ∧ m + j < j + k then c (m + j) * dg p (m + j - j) t else 0)
          refine ⟨_, rfl, _, _, rfl, rfl, .inl ⟨by lia, by lia⟩, ?_⟩
          refine ⟨_, _, rfl, rfl, ?_⟩
          refine ⟨_, rfl, _, _, rfl, rfl, by show (0 : Int) < (p : Int); lia, ?_⟩
          refine ⟨_, rfl, _, rfl, ?_⟩
          refine ⟨l, _, _, j + k, rfl, rfl, hr3, ixN_nat (by rw [rowL_len]; exact hjk) rfl, ?_⟩
          refine ⟨s7, _, _, s10, _, rfl, sx_set sx3, by rw [upd_ne nb2]; exact hc3, ?_⟩
          rw [upd_same]
          congr 2
          refine row_add (v := (c (m + j) + if j ≤ m + j ∧ m + j < j + k then c (m + j) * dg p (m + j - j) t else 0) % p * dg p k t) hjk fun i hi => ?_
          by_cases e : i = j + k
          · subst e
            rw [if_pos rfl, if_pos (by lia), if_neg (by lia), if_neg (by lia), Nat.add_zero, Nat.add_zero, show j + k - j = k by lia, Nat.mod_add_mod]
            exact add_mod2 rfl (mul_mod2 (Nat.mod_mod _ _).symm rfl)
          · rw [if_neg e]
            congr 2
            by_cases h2 : j ≤ i ∧ i < j + k
            · rw [if_pos h2, if_pos (by lia)]
            · rw [if_neg h2, if_neg (by lia)]
        · rintro σ H' ⟨s7, s8, s9, s10, s12, rfl, sx, hc, hrow⟩
          refine ⟨s7, s8, s9, s10, _, s12, rfl, sx, _, hrow, ?_⟩
          rw [← hred, hj, show m - 1 - (i + 1) = j by lia]
          show _ = redF m (fun i => dg p i t) j (stepF m (fun i => dg p i t) (m + j) c)
          congr 1
          funext z
          unfold stepF
          rw [digL_len, show m + j - m = j by lia]
          congr 1
          by_cases h2 : j ≤ z ∧ z < j + m
          · rw [if_pos h2, if_pos (by lia)]
          · rw [if_neg h2, if_neg (by lia)]
      · rintro σ H' ⟨s7, s8, s9, s10, s11, s12, rfl, sx, c, hrow, hred⟩
        refine hD _ _ ⟨s7, s8, s9, s10, s11, s12, rfl, sx, c, hrow, fun i hi => ?_⟩
        rw [show m - 1 - (2 * (m : Int) - 2 - ((m : Int) - 1)).toNat = 0 by lia] at hred
        have e := congrFun hred i
        have e2 := red_conv (t := fun i => dg p i t) hm (m - 1) (fun i => dg p i x) (fun i => dg p i y) (fun z hz => dg_of_lt hp hy hz) i hi
        rw [show m - 1 + 1 = m by lia] at e2
        exact e.trans e2
  · intro D' _ _ _ hD
    refine ⟨_, rfl, _, rfl, a, p, m, t, x, rfl, Same.tup ((same_new hl0 _).trans (same_new hl _)) hF, hp, hp2, by lia, fun b1 H1 hb1 s1 e1 => ?_⟩
    have hl1 : H1 l = some (.lst (rowL p (2 * m - 1) fun _ => 0)) := s1 _ _ upd_same
    have nb1 : b1 ≠ l := fun e => by rw [e, upd_same] at hb1; cases hb1
    have sx1 : SameX l l H H1 := Same.x (((same_new hl0 _).trans (same_new hl _)).trans s1)
    refine ⟨false, b1, rfl, ⟨_, SqL.of e1⟩, ?_⟩
    refine for_any (seqs_enum (K := K) (b := false) (l := b1) (xs := digL p m x)) (fun j σ H' => ∃ s7 s8 s9 s10 s11 s12, σ = [some (.ref a), some (Vn x), some (Vn y), some (Vn p), some (Vn m), some (Vn t), some (.ref l), s7, s8, s9, s10, s11, s12] ∧ SameX l l H H' ∧ H' b1 = some (.lst (digL p m x)) ∧
      H' l = some (.lst (rowL p (2 * m - 1) fun i => sumN j fun j' => dg p j' x * shN j' (fun i => dg p i y) i))) ⟨none, none, none, none, none, none, rfl, sx1, e1, hl1⟩ ?_ ?_ ?_
    · rintro i σ H' _ ⟨s7, s8, s9, s10, s11, s12, rfl, _, h, _⟩; exact SqL.of h
    · rintro j v σ H' H'' hj ⟨s7, s8, s9, s10, s11, s12, rfl, sx, hb, hrow⟩ ⟨T, u, rfl, eu, hT, rfl⟩
      rw [digL_len] at hj
      rw [digL_get hj] at eu; cases eu
      refine ⟨T, _, rfl, SqT.of upd_same, rfl, _, _, rfl, _, _, rfl, rfl, ?_⟩
      have sx2 : SameX l l H (upd H' T (.tup [.int j, Vn (dg p j x)])) := sx_new sx hT
      have hb2 : (upd H' T (.tup [.int j, Vn (dg p j x)])) b1 = some (.lst (digL p m x)) := by rw [upd_ne (ne_of_none hb hT)]; exact hb
      have hr2 : (upd H' T (.tup [.int j, Vn (dg p j x)])) l = some (.lst (rowL p (2 * m - 1) fun i => sumN j fun j' => dg p j' x * shN j' (fun i => dg p i y) i)) := by rw [upd_ne (ne_of_none hrow hT)]; exact hrow
      generalize upd H' T (.tup [.int j, Vn (dg p j x)]) = G at sx2 hb2 hr2 ⊢
      refine ⟨_, rfl, _, rfl, a, p, m, t, y, rfl, Same.tup (sx_same sx2 hlH) hF, hp, hp2, by lia, fun b2 H2 hb2' s2 e2 => ?_⟩
      have nb2 : b2 ≠ l := fun e => by rw [e, hr2] at hb2'; cases hb2'
      refine ⟨false, b2, rfl, ⟨_, SqL.of e2⟩, ?_⟩
      refine for_any (seqs_enum (K := K) (b := false) (l := b2) (xs := digL p m y)) (fun k σ H' => ∃ s9 s10 s11 s12, σ = [some (.ref a), some (Vn x), some (Vn y), some (Vn p), some (Vn m), some (Vn t), some (.ref l), some (Vn j), some (Vn (dg p j x)), s9, s10, s11, s12] ∧ SameX l l H H' ∧ H' b1 = some (.lst (digL p m x)) ∧ H' b2 = some (.lst (digL p m y)) ∧
        H' l = some (.lst (rowL p (2 * m - 1) fun i => sumN j (fun j' => dg p j' x * shN j' (fun i => dg p i y) i) + if j ≤ i ∧ i < j + k then dg p j x * dg p (i - j) y else 0))) ⟨s9, s10, s11, s12, rfl, sx2.trans (Same.x s2), s2 _ _ hb2, e2, ?_⟩ ?_ ?_ ?_
      · rw [s2 _ _ hr2]
        congr 2
        refine rowL_congr fun i _ => ?_
        rw [if_neg (by lia)]; rfl
      · rintro i σ H' _ ⟨s9, s10, s11, s12, rfl, _, _, h, _⟩; exact SqL.of h
      · rintro k v σ H' H'' hk ⟨s9, s10, s11, s12, rfl, sx, hb, hc, hrow⟩ ⟨T, u, rfl, eu, hT, rfl⟩
        rw [digL_len] at hk
        rw [digL_get hk] at eu; cases eu
        refine ⟨T, _, rfl, SqT.of upd_same, rfl, _, _, rfl, _, _, rfl, rfl, ?_⟩
        have sx3 : SameX l l H (upd H' T (.tup [.int k, Vn (dg p k y)])) := sx_new sx hT
        have hb3 : (upd H' T (.tup [.int k, Vn (dg p k y)])) b1 = some (.lst (digL p m x)) := by rw [upd_ne (ne_of_none hb hT)]; exact hb
        have hc3 : (upd H' T (.tup [.int k, Vn (dg p k y)])) b2 = some (.lst (digL p m y)) := by rw [upd_ne (ne_of_none hc hT)]; exact hc
        have hr3 := (upd_ne (o := .tup [.int k, Vn (dg p k y)]) (ne_of_none hrow hT)).trans hrow
        generalize upd H' T (.tup [.int k, Vn (dg p k y)]) = G at sx3 hb3 hc3 hr3 ⊢
        have d1 := dg_lt hp j x
        have hjk : j + k < 2 * m - 1 := by lia
        refine ⟨_, rfl, _, rfl, _, rfl, _, _, rfl, rfl, ?_⟩
        refine ⟨l, _, _, _, rfl, rfl, SqL.of hr3, rowL_at _ hjk rfl, ?_⟩
        refine ⟨_, rfl, _, rfl, _, _, rfl, rfl, .inl ⟨by show -(2 ^ 64 : Int) < ((dg p j x : Nat) : Int); lia, by show ((dg p j x : Nat) : Int) < 2 ^ 64; lia⟩, ?_⟩
        refine ⟨_, _, rfl, rfl, ?_⟩
        refine ⟨_, rfl, _, _, rfl, rfl, by show (0 : Int) < (p : Int); lia, ?_⟩
        refine ⟨_, rfl, _, rfl, _, rfl, _, _, rfl, rfl, ?_⟩
        refine ⟨l, _, _, j + k, rfl, rfl, hr3, ixN_nat (by rw [rowL_len]; exact hjk) rfl, ?_⟩
        refine ⟨_, _, s11, s12, rfl, sx_set sx3, by rw [upd_ne nb1]; exact hb3, by rw [upd_ne nb2]; exact hc3, ?_⟩
        rw [upd_same]
        congr 2
        refine row_add (v := dg p j x * dg p k y) hjk fun i hi => ?_
        by_cases e : i = j + k
        · subst e
          rw [if_pos rfl, if_pos (by lia), if_neg (by lia), Nat.add_zero, show j + k - j = k by lia, Nat.mod_add_mod]
        · rw [if_neg e]
          congr 2
          by_cases h2 : j ≤ i ∧ i < j + k
          · rw [if_pos h2, if_pos (by lia)]
          · rw [if_neg h2, if_neg (by lia)]
      · rintro σ H' ⟨s9, s10, s11, s12, rfl, sx, hb, hc, hrow⟩
        refine ⟨_, _, s9, s10, s11, s12, rfl, sx, hb, ?_⟩
        rw [hrow, digL_len]
        congr 2
        refine rowL_congr fun i _ => ?_
        rw [sumN]
        congr 2
        unfold shN
        by_cases h1 : j ≤ i
        · rw [if_pos h1]
          by_cases h2 : i < j + m
          · rw [if_pos ⟨h1, h2⟩]
          · rw [if_neg (by lia)]; show 0 = dg p j x * dg p (i - j) y; rw [dg_of_lt hp hy (by lia), Nat.mul_zero]
        · rw [if_neg h1, if_neg (by lia), Nat.mul_zero]
    · rintro σ H' ⟨s7, s8, s9, s10, s11, s12, rfl, sx, hb, hrow⟩
      refine hD _ _ ⟨s7, s8, s9, s10, s11, s12, rfl, sx, ?_⟩
      rw [hrow, digL_len]
      congr 2
      exact rowL_congr fun i _ => by rw [convF_sum]
end
end My

end
section
-- text: P4
set_option Elab.async false
set_option linter.all false
set_option maxRecDepth 100000
set_option maxHeartbeats 4000000
namespace My
open PySem L2 Dg
section
variable {P : Program} {w : World} {K : PySem.W.Frag} {mg : Str → Option Value} {base : Heap} {f : Addr} {fd : FuncData}
theorem of_nn {b : Bool} (h : ¬ (!b) = true) : b = true := by cases b <;> simp_all
/-! is_good: where it says True there are no two things but 0 with product 0, the one of few digits -/
noncomputable def sp_good (K : PySem.W.Frag) : Sp := fun vs H Q _ => ∃ (a : Addr) (p m t : Nat), vs = [.ref a] ∧ Fld K H a p m t ∧ 2 ≤ p ∧ 1 ≤ m ∧ p ^ m ≤ 64 ∧ t < p ^ m ∧
  ∀ (b : Bool) H', Same H H' → (b = true → ∀ x y, 0 < x → x < p ^ m → x < p ^ (m / 2 + 1) → 0 < y → y < p ^ m → mul p m t x y ≠ 0) → Q (.bl b) H'
theorem sc__law_is_good : FnScope ["_law_field_here", "_law_p", "_law_m", "_law_top", "_law_many", "_law_one"] ["_law_field_here"] (defScope s__law_is_good) := ⟨rfl, rfl, rfl, by decide +kernel, rfl, by decide +kernel, by decide +kernel⟩
end
end My

end
section
-- text: P5
set_option Elab.async false
set_option linter.all false
set_option maxRecDepth 100000
set_option maxHeartbeats 4000000
namespace My
open PySem L2 Dg
theorem menu_one {p m : Nat} (h : (p, m) ∈ Dg.menu) : (p, 1) ∈ Dg.menu := (by decide +kernel : ∀ c ∈ Dg.menu, (c.1, 1) ∈ Dg.menu) (p, m) h
/-! a list of pairs -/
noncomputable def menuT0 : List (Int × Int) → TA
  | [] => tNil
  | (p, m) :: r => tCons (tTup (tCons (tC (.int p)) (tCons (tC (.int m)) tNil))) (menuT0 r)
@[irreducible] noncomputable def menuT (ps : List (Int × Int)) : TA := menuT0 ps
theorem menuT_eq (ps : List (Int × Int)) : menuT ps = menuT0 ps := by unfold menuT; rfl
theorem menuT_nil : menuT [] = tNil := by rw [menuT_eq]; rfl
theorem menuT_cons {p m : Int} {r : List (Int × Int)} : menuT ((p, m) :: r) = tCons (tTup (tCons (tC (.int p)) (tCons (tC (.int m)) tNil))) (menuT r) := by rw [menuT_eq, menuT_eq]; rfl
section
variable {X : Cx}
theorem pa_menu_nil : PA X [] (menuT []) := by rw [menuT_nil]; exact pa_nil
theorem pa_menu_cons {p m : Int} {k1 k2 c : Nat} {p1 p2 p3 : Pos} {es : List Expr} {r : List (Int × Int)} (h : PA X es (menuT r)) : PA X (.Tuple [.Constant (.int p) k1 p1, .Constant (.int m) k2 p2] c p3 :: es) (menuT ((p, m) :: r)) := by
  rw [menuT_cons]
  exact pa_cons (pe_tup (pa_cons pe_int (pa_cons pe_int pa_nil))) h
end
noncomputable def PairAt (H : Hp) (t : Addr) : Prop := ∃ p m : Nat, H t = some (.tup [Vn p, Vn m]) ∧ (p, m) ∈ Dg.menu
theorem PairAt.same {H H' : Hp} {t : Addr} (h : PairAt H t) (s : ∀ o, H t = some o → H' t = some o) : PairAt H' t := by
  obtain ⟨p, m, e, q⟩ := h; exact ⟨p, m, s _ e, q⟩
theorem menu_read : ∀ (ps : List (Int × Int)) (σ : St) (H : Hp) (Q : List V → Hp → Prop), (∀ x ∈ ps, ∃ p m : Nat, x = ((p : Int), (m : Int)) ∧ (p, m) ∈ Dg.menu) →
    (∀ (ts : List Addr) H', Same H H' → ts.length = ps.length → (∀ t ∈ ts, H t = none ∧ PairAt H' t) → Q (ts.map V.ref) H') → menuT ps σ H Q
  | [], σ, H, Q, _, q => by rw [menuT_nil]; exact q [] H (Same.refl _) rfl (fun t ht => nomatch ht)
  | (p, m) :: r, σ, H, Q, hp, q => by
    rw [menuT_cons]
    refine ⟨szl 2, fun t ht => ?_⟩
    obtain ⟨p', m', e, b⟩ := hp (p, m) List.mem_cons_self
    cases e
    refine menu_read r σ _ _ (fun x hx => hp x (List.mem_cons_of_mem _ hx)) fun ts H' s hl hts => ?_
    refine q (t :: ts) H' ((same_new ht _).trans s) (by simp [hl]) fun t' ht' => ?_
    rcases List.mem_cons.mp ht' with e | e
    · subst e; exact ⟨ht, p', m', s _ _ upd_same, b⟩
    · exact ⟨(same_new ht _).free (hts t' e).1, (hts t' e).2⟩
/-- a list of pairs at l, apart from the purse -/
structure Menu (a g : Addr) (H : Hp) (l : Addr) (n : Nat) : Prop where
  ex : ∃ ts : List Addr, H l = some (.lst (ts.map V.ref)) ∧ ts.length = n ∧ ∀ t ∈ ts, t ≠ a ∧ t ≠ g ∧ PairAt H t
  na : l ≠ a
  ng : l ≠ g
theorem Menu.x {a g l : Addr} {n : Nat} {H H' : Hp} (h : Menu a g H l n) (s : SameX a g H H') : Menu a g H' l n := by
  obtain ⟨⟨ts, h1, h2, h3⟩, na, ng⟩ := h
  exact ⟨⟨ts, s _ _ na ng h1, h2, fun t ht => ⟨(h3 t ht).1, (h3 t ht).2.1, (h3 t ht).2.2.same fun o e => s _ _ (h3 t ht).1 (h3 t ht).2.1 e⟩⟩, na, ng⟩
section
variable {P : Program} {w : World} {K : PySem.W.Frag} {mg : Str → Option Value} {base : Heap} {f : Addr} {fd : FuncData}
noncomputable def primes17 : List Nat := [17, 19, 23, 29, 31, 37, 41, 43, 47, 53, 59]
noncomputable def sp_field : Sp := fun vs H Q _ => ∃ (a g : Addr), vs = [.ref a] ∧ Pu H a g ∧ ∀ (r : Addr) (p m t : Nat) H', r ≠ a → r ≠ g → H r = none → H' r = some (.tup [Vn p, Vn m, Vn t]) → Good p m t → Pu H' a g → SameX a g H H' → Q (.ref r) H'
theorem sc__law_field : FnScope ["_law_purse_here", "_law_some", "_law_size", "_law_p", "_law_m", "_law_many", "_law_start", "_law_turn", "_law_field_here"] ["_law_purse_here"] (defScope s__law_field) := ⟨rfl, rfl, rfl, by decide +kernel, rfl, by decide +kernel, by decide +kernel⟩
theorem Pu.lt {H : Hp} {a g l : Addr} (h : Pu H a g) (hl : H l = none) : l ≠ a ∧ l ≠ g := by
  obtain ⟨ns, s, t, h1, h2⟩ := h
  exact ⟨Ne.symm (ne_of_none h1 hl), Ne.symm (ne_of_none h2 hl)⟩
theorem ok_field (B : Bl mg) (h__law_pick : Has P w K mg base 1 "_law_pick" ["_law_purse_here", "_law_many"] sp_pick) (h__law_raised : Has P w K mg base 1 "_law_raised" ["_law_one", "_law_many"] sp_number_power) (h__law_is_good : Has P w K mg base 3 "_law_is_good" ["_law_field_here"] (sp_good K)) (F : Fun K "_law_field" "_law_field" s__law_field f fd) : FnOk P w K mg base CX0 4 f fd ["_law_purse_here"] sp_field := by
  refine F.ok sc__law_field (fun vs H Q E h => ?_) (fun cdv A outer s H vs Q E hr h => ?_)
  · obtain ⟨a, g, rfl, _⟩ := h; rfl
  obtain ⟨a, g, rfl, hP, q⟩ := h
  refine ⟨_, (@pss_cons _ _ _ _ _ (@ps_set _ _ 1 _ _ _ _ sc__law_field.nd rfl (Or.inl rfl) (@pe_lst _ _ _ _ (@pa_menu_cons _ _ _ _ _ _ _ _ _ _ _ (@pa_menu_cons _ _ _ _ _ _ _ _ _ _ _ (@pa_menu_cons _ _ _ _ _ _ _ _ _ _ _ (@pa_menu_cons _ _ _ _ _ _ _ _ _ _ _ (@pa_menu_cons _ _ _ _ _ _ _ _ _ _ _ (@pa_menu_cons _ _ _ _ _ _ _ _ _ _ _ (@pa_menu_cons _ _ _ _ _ _ _ _ _ _ _ (@pa_menu_cons _ _ _ _ _ _ _ _ _ _ _ (@pa_menu_cons _ _ _ _ _ _ _ _ _ _ _ (@pa_menu_cons _ _ _ _ _ _ _ _ _ _ _ (@pa_menu_cons _ _ _ _ _ _ _ _ _ _ _ (@pa_menu_cons _ _ _ _ _ _ _ _ _ _ _ pa_menu_nil))))))))))))) (by rfl) (by first | exact .inl rfl | exact .inr rfl | assumption)) (@pss_cons _ _ _ _ _ (@ps_set _ _ 2 _ _ _ _ sc__law_field.nd rfl (Or.inl rfl) (@pe_callH _ _ _ _ _ _ _ _ _ _ _ h__law_pick hr (by decide) rfl (@pa_cons _ _ _ _ _ (pv 0) (@pa_cons _ _ _ _ _ pe_int pa_nil (by rfl)) (by rfl)) (by decide) (by rfl) (by rfl)) (by rfl) (by first | exact .inl rfl | exact .inr rfl | assumption)) (@pss_cons _ _ _ _ _ (@ps_if _ _ _ _ _ _ _ _ (@pt_cmpR _ _ _ _ _ _ _ _ op_eq (pv 2) pe_int (nomark _)) (@pss_one _ _ _ (@ps_set _ _ 1 _ _ _ _ sc__law_field.nd rfl (Or.inl rfl) (@pe_lst _ _ _ _ (@pa_menu_cons _ _ _ _ _ _ _ _ _ _ _ (@pa_menu_cons _ _ _ _ _ _ _ _ _ _ _ (@pa_menu_cons _ _ _ _ _ _ _ _ _ _ _ (@pa_menu_cons _ _ _ _ _ _ _ _ _ _ _ pa_menu_nil))))) (by rfl) (by first | exact .inl rfl | exact .inr rfl | assumption))) pss_nil) (@pss_cons _ _ _ _ _ (@ps_if _ _ _ _ _ _ _ _ (@pt_cmpR _ _ _ _ _ _ _ _ op_eq (pv 2) pe_int (nomark _)) (@pss_one _ _ _ (@ps_setC _ 1 _ _ _ _ _ _ _ _ _ ["_law_p"] [] [] _ _ _ _ sc__law_field.nd rfl (Or.inl rfl) (id (α := CSc ["_law_purse_here", "_law_some", "_law_size", "_law_p", "_law_m", "_law_many", "_law_start", "_law_turn", "_law_field_here"] (defScope s__law_field) ["_law_p"] [] [] _) ⟨by rfl, by decide +kernel, by decide +kernel, by decide +kernel, by decide +kernel, by rfl, by decide +kernel⟩) rfl (@pi_list _ _ _ _ (@pe_lst _ _ _ _ (@pa_cons _ _ _ _ _ pe_int (@pa_cons _ _ _ _ _ pe_int (@pa_cons _ _ _ _ _ pe_int (@pa_cons _ _ _ _ _ pe_int (@pa_cons _ _ _ _ _ pe_int (@pa_cons _ _ _ _ _ pe_int (@pa_cons _ _ _ _ _ pe_int (@pa_cons _ _ _ _ _ pe_int (@pa_cons _ _ _ _ _ pe_int (@pa_cons _ _ _ _ _ pe_int (@pa_cons _ _ _ _ _ pe_int pa_nil (by rfl)) (by rfl)) (by rfl)) (by rfl)) (by rfl)) (by rfl)) (by rfl)) (by rfl)) (by rfl)) (by rfl)) (by rfl)))) (fun cl C fp s H => (@pg_name _ _ 0 _ (by show List.Nodup (["_law_p"] : List Str); decide +kernel) rfl (Or.inl rfl) (by first | exact .inl rfl | exact .inr rfl | assumption))) (fun _ _ _ _ _ => pifs_nil) (fun _ _ _ _ _ => (@pe_tup _ _ _ _ _ (@pa_cons _ _ _ _ _ (pv 0) (@pa_cons _ _ _ _ _ pe_int pa_nil (by rfl)) (by rfl)))) (by rfl) (by intro _; rfl) (by first | exact .inl rfl | exact .inr rfl | assumption))) pss_nil) (@pss_cons _ _ _ _ _ (@ps_asg _ _ _ _ _ _ (@pe_ix _ _ _ _ _ _ _ ix_list (pv 1) (@pe_callH _ _ _ _ _ _ _ _ _ _ _ h__law_pick hr (by decide) rfl (@pa_cons _ _ _ _ _ (pv 0) (@pa_cons _ _ _ _ _ (@pe_callB _ _ _ _ _ _ _ _ _ call_len_seq rfl (B "len" (by decide)) PySem.boot_len (@pa_cons _ _ _ _ _ (pv 1) pa_nil (by rfl)) (by decide) (by decide) (by rfl) (by rfl)) pa_nil (by rfl)) (by rfl)) (by decide) (by rfl) (by rfl)) (fun _ _ => rfl)) (@pg_tup _ _ _ _ _ _ rfl (@pgs_cons _ _ _ _ _ (@pg_name _ _ 3 _ sc__law_field.nd rfl (Or.inl rfl) (by first | exact .inl rfl | exact .inr rfl | assumption)) (@pgs_cons _ _ _ _ _ (@pg_name _ _ 4 _ sc__law_field.nd rfl (Or.inl rfl) (by first | exact .inl rfl | exact .inr rfl | assumption)) pgs_nil (by rfl)) (by rfl)) (by rfl) (by rfl)) (by rfl) (by rfl) (by rfl)) (@pss_cons _ _ _ _ _ (@ps_set _ _ 5 _ _ _ _ sc__law_field.nd rfl (Or.inl rfl) (@pe_callH _ _ _ _ _ _ _ _ _ _ _ h__law_raised hr (by decide) rfl (@pa_cons _ _ _ _ _ (pv 3) (@pa_cons _ _ _ _ _ (pv 4) pa_nil (by rfl)) (by rfl)) (by decide) (by rfl) (by rfl)) (by rfl) (by first | exact .inl rfl | exact .inr rfl | assumption)) (@pss_cons _ _ _ _ _ (@ps_set _ _ 6 _ _ _ _ sc__law_field.nd rfl (Or.inl rfl) (@pe_callH _ _ _ _ _ _ _ _ _ _ _ h__law_pick hr (by decide) rfl (@pa_cons _ _ _ _ _ (pv 0) (@pa_cons _ _ _ _ _ (pv 5) pa_nil (by rfl)) (by rfl)) (by decide) (by rfl) (by rfl)) (by rfl) (by first | exact .inl rfl | exact .inr rfl | assumption)) (@pss_cons _ _ _ _ _ (@ps_for _ _ _ _ _ _ _ _ PassesOwn.never rfl (@pi_range1 _ _ _ _ _ _ rfl (B "range" (by decide)) (@pa_cons _ _ _ _ _ (pv 5) pa_nil (by rfl)) (by rfl)) (@pg_name _ _ 7 _ sc__law_field.nd rfl (Or.inl rfl) (by first | exact .inl rfl | exact .inr rfl | assumption)) (@pss_cons _ _ _ _ _ (@ps_set _ _ 8 _ _ _ _ sc__law_field.nd rfl (Or.inl rfl) (@pe_tup _ _ _ _ _ (@pa_cons _ _ _ _ _ (pv 3) (@pa_cons _ _ _ _ _ (pv 4) (@pa_cons _ _ _ _ _ (@pe_op _ _ _ _ _ _ _ _ op_mod (@pe_op _ _ _ _ _ _ _ _ op_add (pv 6) (pv 7)) (pv 5)) pa_nil (by rfl)) (by rfl)) (by rfl))) (by rfl) (by first | exact .inl rfl | exact .inr rfl | assumption)) (@pss_one _ _ _ (@ps_if _ _ _ _ _ _ _ _ (@PW.pt _ _ _ (@pw_or _ _ _ _ _ _ _ (@pt_cmpR _ _ _ _ _ _ _ _ op_eq (pv 4) pe_int (nomark _)) (@pw_or1 _ _ _ _ (@pt_val _ _ _ (@pe_callH _ _ _ _ _ _ _ _ _ _ _ h__law_is_good hr (by decide) rfl (@pa_cons _ _ _ _ _ (pv 8) pa_nil (by rfl)) (by decide) (by rfl) (by rfl)) (by intro _; rfl))))) (@pss_one _ _ _ (@ps_ret _ _ _ _ (pv 8))) pss_nil))) (by intro _; rfl)) (@pss_one _ _ _ (@ps_ret _ _ _ _ (@pe_tup _ _ _ _ _ (@pa_cons _ _ _ _ _ (pv 3) (@pa_cons _ _ _ _ _ pe_int (@pa_cons _ _ _ _ _ pe_int pa_nil (by rfl)) (by rfl)) (by rfl))))))))))))), ?_⟩
  refine menu_read [(2, 1), (2, 2), (2, 3), (2, 4), (3, 1), (3, 2), (3, 3), (5, 1), (5, 2), (7, 1), (11, 1), (13, 1)] _ H _ ?_ fun ts H0 s0 hts hpair => ?_
  · intro x hx
    simp only [List.mem_cons, List.not_mem_nil, or_false] at hx
    rcases hx with rfl | rfl | rfl | rfl | rfl | rfl | rfl | rfl | rfl | rfl | rfl | rfl
    · exact ⟨2, 1, rfl, by decide +kernel⟩
    · exact ⟨2, 2, rfl, by decide +kernel⟩
    · exact ⟨2, 3, rfl, by decide +kernel⟩
    · exact ⟨2, 4, rfl, by decide +kernel⟩
    · exact ⟨3, 1, rfl, by decide +kernel⟩
    · exact ⟨3, 2, rfl, by decide +kernel⟩
    · exact ⟨3, 3, rfl, by decide +kernel⟩
    · exact ⟨5, 1, rfl, by decide +kernel⟩
    · exact ⟨5, 2, rfl, by decide +kernel⟩
    · exact ⟨7, 1, rfl, by decide +kernel⟩
    · exact ⟨11, 1, rfl, by decide +kernel⟩
    · exact ⟨13, 1, rfl, by decide +kernel⟩
  refine ⟨by rw [List.length_map, hts]; exact szl 12, fun l hl => ?_⟩
  have hP0 : Pu (upd H0 l (.lst (ts.map V.ref))) a g := hP.same (s0.trans (same_new hl _))
  have sx0 : SameX a g H (upd H0 l (.lst (ts.map V.ref))) := Same.x (s0.trans (same_new hl _))
  have M0 : Menu a g (upd H0 l (.lst (ts.map V.ref))) l 12 := by
    have n1 := (hP.same s0).lt hl
    refine ⟨⟨ts, upd_same, hts, fun t ht => ?_⟩, n1.1, n1.2⟩
    have n2 := hP.lt (hpair t ht).1
    exact ⟨n2.1, n2.2, (hpair t ht).2.same fun o e => (same_new hl _) _ _ e⟩
  generalize upd H0 l (.lst (ts.map V.ref)) = G at hP0 sx0 M0 ⊢
  refine ⟨_, rfl, a, g, 8, rfl, hP0, by lia, by lia, fun sz H1 hsz hP1 sx1 => ?_⟩
  have sxA := sx0.trans sx1
  have M1 := M0.x sx1
  -- the other menus
  dsimp only [gName]
  refine seq_cut (fun σ H' => ∃ l n, 0 < n ∧ n ≤ 12 ∧ Menu a g H' l n ∧ Pu H' a g ∧ SameX a g H H' ∧ σ = [some (.ref a), some (.ref l), some (Vn sz), none, none, none, none, none, none]) ?_ ?_
  · rintro σ H2 ⟨l, n, hn, hn2, M2, hP2, sx2, rfl⟩
    refine seq_cut (fun σ H' => ∃ l n, 0 < n ∧ n ≤ 12 ∧ Menu a g H' l n ∧ Pu H' a g ∧ SameX a g H H' ∧ σ = [some (.ref a), some (.ref l), some (Vn sz), none, none, none, none, none, none]) ?_ ?_
    · rintro σ H3 ⟨l, n, hn, hn2, M3, hP3, sx3, rfl⟩
      obtain ⟨ts3, e3, l3, p3⟩ := M3.ex
      refine ⟨_, rfl, _, rfl, _, rfl, l, _, rfl, .inl (SqL.of e3), ?_⟩
      refine ⟨a, g, n, by rw [List.length_map, l3]; rfl, hP3, hn, by lia, fun i H4 hi hP4 sx4 => ?_⟩
      obtain ⟨ts4, e4, l4, p4⟩ := (M3.x sx4).ex
      have hi4 : i < ts4.length := by lia
      refine ⟨l, _, _, .ref (ts4[i]), rfl, rfl, SqL.of e4, atI_nat (by rw [List.getElem?_map, List.getElem?_eq_getElem hi4]; rfl), ?_⟩
      obtain ⟨_, _, p, m, ep, hmem⟩ := p4 ts4[i] (List.getElem_mem hi4)
      obtain ⟨hp, hm, hpm⟩ := menu_small hmem
      have hp2 := p_le hp hm hpm
      have hm6 := m_le hp hpm
      have hpos : 0 < p ^ m := Nat.pow_pos (by lia)
      refine ⟨ts4[i], _, rfl, SqT.of ep, rfl, _, _, rfl, _, _, rfl, rfl, ?_⟩
      refine ⟨_, rfl, _, rfl, p, m, rfl, hp2, by lia, ?_⟩
      refine ⟨_, rfl, _, rfl, a, g, p ^ m, rfl, hP4, hpos, by lia, fun st H5 hst hP5 sx5 => ?_⟩
      have sxE := sx3.trans (sx4.trans sx5)
      refine ⟨_, rfl, ((p ^ m : Nat) : Int), rfl, by lia, by lia, ?_⟩
      refine for_range (n := p ^ m) (fun i σ H' => Pu H' a g ∧ SameX a g H H' ∧ ∃ s7 s8, σ = [some (.ref a), some (.ref l), some (Vn sz), some (Vn p), some (Vn m), some (Vn (p ^ m)), some (Vn st), s7, s8]) ⟨hP5, sxE, none, none, rfl⟩ ?_ ?_
      · rintro j σ H6 hj ⟨hP6, sx6, s7, s8, rfl⟩
        refine ⟨_, rfl, _, rfl, _, rfl, _, rfl, _, _, rfl, rfl, ?_⟩
        refine ⟨_, rfl, _, _, rfl, rfl, by show (0 : Int) < ((p ^ m : Nat) : Int); lia, ?_⟩
        refine ⟨szl 3, fun r hr => ?_⟩
        have nr := hP6.lt hr
        have hr0 : H r = none := by
          cases e : H r with
          | none => rfl
          | some o => rw [sx6 r o nr.1 nr.2 e] at hr; cases hr
        have et : V.int ((((st : Nat) : Int) + (0 + (j : Int))) % ((p ^ m : Nat) : Int)) = Vn ((st + j) % p ^ m) := by show V.int _ = V.int _; congr 1; rw [Int.zero_add]; rfl
        have hlt : (st + j) % p ^ m < p ^ m := Nat.mod_lt _ hpos
        have hP7 : Pu (upd H6 r (.tup [Vn p, Vn m, Vn ((st + j) % p ^ m)])) a g := hP6.same (same_new hr _)
        have sx7 : SameX a g H (upd H6 r (.tup [Vn p, Vn m, Vn ((st + j) % p ^ m)])) := sx6.trans (Same.x (same_new hr _))
        dsimp only [gName]
        rw [et]
        refine ⟨_, rfl, rfl, _, rfl, ?_⟩
        refine ite2 (fun c => ?_) (fun c => ?_)
        · refine ite2 (fun _ => ?_) (fun c => absurd rfl c)
          have hm1 : m = 1 := by
            have := of_decide_eq_true c
            injection this with this
            lia
          exact ⟨_, rfl, q r p m _ _ nr.1 nr.2 hr0 upd_same ⟨hmem, hlt, .inl hm1⟩ hP7 sx7⟩
        · refine ⟨_, rfl, r, p, m, (st + j) % p ^ m, rfl, SqT.of upd_same, hp, hm, hpm, hlt, fun b H8 s8' hb => ?_⟩
          refine ⟨_, rfl, ?_⟩
          refine ite2 (fun c2 => ?_) (fun _ => ?_)
          · exact ⟨_, rfl, q r p m _ _ nr.1 nr.2 hr0 (s8' _ _ upd_same) ⟨hmem, hlt, .inr (hb c2)⟩ (hP7.same s8') (sx7.trans (Same.x s8'))⟩
          · exact ⟨hP7.same s8', sx7.trans (Same.x s8'), _, _, rfl⟩
      · rintro σ H6 ⟨hP6, sx6, s7, s8, rfl⟩
        refine ⟨_, rfl, szl 3, fun r hr => ?_⟩
        have nr := hP6.lt hr
        have hr0 : H r = none := by
          cases e : H r with
          | none => rfl
          | some o => rw [sx6 r o nr.1 nr.2 e] at hr; cases hr
        exact q r p 1 0 _ nr.1 nr.2 hr0 upd_same ⟨menu_one hmem, by simp; lia, .inl rfl⟩ (hP6.same (same_new hr _)) (sx6.trans (Same.x (same_new hr _)))
    · intro D' _ _ _ hD
      refine ⟨_, rfl, rfl, _, rfl, ?_⟩
      refine ite2 (fun c => ?_) (fun c => hD _ _ ⟨l, n, hn, hn2, M2, hP2, sx2, rfl⟩)
      refine ⟨szl 11, fun l2 hl2 => ?_⟩
      refine ⟨l2, rfl, ⟨_, SqL.of upd_same⟩, ?_⟩
      refine comp_any (seqs_list (xs := primes17.map Vn)) (fun k acc H' => Same (upd H2 l2 (.lst (primes17.map Vn))) H' ∧ ∃ ts : List Addr, ts.length = k ∧ acc = ts.map V.ref ∧ ∀ t ∈ ts, t ≠ a ∧ t ≠ g ∧ PairAt H' t)
        ⟨Same.refl _, [], rfl, rfl, fun t ht => nomatch ht⟩ (fun i acc H' _ h => SqL.of (h.1 _ _ upd_same)) ?_ ?_ ?_
      · rintro k acc H' hk ⟨_, ts, e, rfl, _⟩
        have hk' : k < 11 := hk
        rw [List.length_map, e]; exact small1000 (by lia)
      · rintro k acc x H3 H4 hk ⟨s3, ts, e, rfl, hts⟩ ⟨rfl, hx⟩
        obtain ⟨pr, hpr, rfl⟩ : ∃ pr, pr ∈ primes17 ∧ x = Vn pr := by
          rw [List.getElem?_map] at hx
          cases e : primes17[k]? with
          | none => rw [e] at hx; cases hx
          | some pr => rw [e] at hx; cases hx; exact ⟨pr, List.mem_of_getElem? e, rfl⟩
        have hb : (pr, 1) ∈ Dg.menu := (by decide +kernel : ∀ x ∈ primes17, (x, 1) ∈ Dg.menu) pr hpr
        refine ⟨_, rfl, szl 2, fun t ht => ?_⟩
        have hP3 : Pu H4 a g := hP2.same ((same_new hl2 _).trans s3)
        have nt := hP3.lt ht
        refine ⟨s3.trans (same_new ht _), ts ++ [t], by simp [e], by simp, fun t' ht' => ?_⟩
        rcases List.mem_append.mp ht' with h | h
        · exact ⟨(hts t' h).1, (hts t' h).2.1, (hts t' h).2.2.same fun o e => (same_new ht _) _ _ e⟩
        · cases List.mem_singleton.mp h
          exact ⟨nt.1, nt.2, pr, 1, upd_same, hb⟩
      · rintro acc H3 ⟨s3, ts, e, rfl, hts⟩ D hD3
        have sA : Same H2 H3 := (same_new hl2 _).trans s3
        have hP3 : Pu H3 a g := hP2.same sA
        have nD := hP3.lt hD3
        refine hD _ _ ⟨D, 11, by lia, by lia, ⟨⟨ts, upd_same, e, fun t ht => ?_⟩, nD.1, nD.2⟩, hP3.same (same_new hD3 _), sx2.trans (Same.x (sA.trans (same_new hD3 _))), rfl⟩
        exact ⟨(hts t ht).1, (hts t ht).2.1, (hts t ht).2.2.same fun o e => (same_new hD3 _) _ _ e⟩
  · intro D' _ _ _ hD
    refine ⟨_, rfl, rfl, _, rfl, ?_⟩
    refine ite2 (fun c => ?_) (fun c => hD _ _ ⟨l, 12, by lia, by lia, M1, hP1, sxA, rfl⟩)
    refine menu_read [(2, 5), (2, 6), (7, 2), (61, 1)] _ H1 _ ?_ fun ts2 H2 s2 hts2 hpair2 => ?_
    · intro x hx
      simp only [List.mem_cons, List.not_mem_nil, or_false] at hx
      rcases hx with rfl | rfl | rfl | rfl
      · exact ⟨2, 5, rfl, by decide +kernel⟩
      · exact ⟨2, 6, rfl, by decide +kernel⟩
      · exact ⟨7, 2, rfl, by decide +kernel⟩
      · exact ⟨61, 1, rfl, by decide +kernel⟩
    refine ⟨by rw [List.length_map, hts2]; exact szl 4, fun l2 hl2 => ?_⟩
    refine hD _ _ ⟨l2, 4, by lia, by lia, ?_, hP1.same (s2.trans (same_new hl2 _)), sxA.trans (Same.x (s2.trans (same_new hl2 _))), rfl⟩
    have n1 := (hP1.same s2).lt hl2
    refine ⟨⟨ts2, upd_same, hts2, fun t ht => ?_⟩, n1.1, n1.2⟩
    have n2 := hP1.lt (hpair2 t ht).1
    exact ⟨n2.1, n2.2, (hpair2 t ht).2.same fun o e => (same_new hl2 _) _ _ e⟩
end
end My

end
section
-- text: P8
set_option Elab.async false
set_option linter.all false
set_option maxRecDepth 100000
set_option maxHeartbeats 4000000
namespace My
open PySem L2 Dg
/-! the table of a field: powers and logs -/
section
variable {P : Program} {w : World} {K : PySem.W.Frag} {mg : Str → Option Value} {base : Heap} {f : Addr} {fd : FuncData}
theorem dec_nat0 (x : Nat) : decide (Vn x = V.int 0) = decide (x = 0) := decide_eq_decide.mpr ⟨fun e => by injection e with e; lia, fun e => by rw [e]; rfl⟩
end
end My

end
section
-- text: P9
set_option Elab.async false
set_option linter.all false
set_option maxRecDepth 100000
set_option maxHeartbeats 4000000
namespace My
open PySem L2 Dg
theorem map_get {ws : List Nat} {i : Nat} (h : i < ws.length) : (ws.map Vn)[i]? = some (Vn (ws.getD i 0)) := by
  rw [List.getElem?_map, List.getElem?_eq_getElem h]; simp [List.getD, h]
theorem getD_lt {xs : List Nat} {n i : Nat} (h : ∀ x ∈ xs, x < n) (hi : i < xs.length) : xs.getD i 0 < n := by
  have e : xs.getD i 0 = xs[i] := by simp [List.getD, hi]
  rw [e]; exact h _ (List.getElem_mem hi)
/-! no 0 at the end -/
section
variable {P : Program} {w : World} {K : PySem.W.Frag} {mg : Str → Option Value} {base : Heap} {f : Addr} {fd : FuncData}
end
end My

end
section
-- text: PA
set_option Elab.async false
set_option linter.all false
set_option maxRecDepth 100000
set_option maxHeartbeats 4000000
namespace My
open PySem L2 Dg
/-! the product of two rows, under way: i of the one are through, and j of the other with the next -/
section
variable {p m t : Nat} (hp : 2 ≤ p) (hm : 1 ≤ m)
include hp hm
end
section
variable {P : Program} {w : World} {K : PySem.W.Frag} {mg : Str → Option Value} {base : Heap} {f : Addr} {fd : FuncData}
end
end My

end
section
-- text: PB
set_option Elab.async false
set_option linter.all false
set_option maxRecDepth 100000
set_option maxHeartbeats 4000000
namespace My
open PySem L2 Dg
/-! trim, by places -/
/-! rows together -/
section
variable {p m t : Nat} (hp : 2 ≤ p) (hm : 1 ≤ m)
include hp hm
end
section
variable {P : Program} {w : World} {K : PySem.W.Frag} {mg : Str → Option Value} {base : Heap} {f : Addr} {fd : FuncData}
end
end My

end
section
-- text: PC
set_option Elab.async false
set_option linter.all false
set_option maxRecDepth 100000
set_option maxHeartbeats 4000000
namespace My
open PySem L2 Dg
section
variable {P : Program} {w : World} {K : PySem.W.Frag} {mg : Str → Option Value} {base : Heap} {f : Addr} {fd : FuncData}
end
end My

end
section
-- text: PD
set_option Elab.async false
set_option linter.all false
set_option maxRecDepth 100000
set_option maxHeartbeats 4000000
namespace My
open PySem L2 Dg
section
variable {P : Program} {w : World} {K : PySem.W.Frag} {mg : Str → Option Value} {base : Heap} {f : Addr} {fd : FuncData}
end
end My

end
section
-- text: PE
set_option Elab.async false
set_option linter.all false
set_option maxRecDepth 100000
set_option maxHeartbeats 4000000
namespace My
open PySem L2 Dg
local macro_rules | `(tactic| walk_at "rd") => `(tactic| repeat (first | refine ⟨_, rfl, ?_⟩ | refine ⟨_, _, rfl, rfl, ?_⟩))
section
variable {p m t : Nat} (G : Good p m t)
include G
end
section
variable {P : Program} {w : World} {K : PySem.W.Frag} {mg : Str → Option Value} {base : Heap} {f : Addr} {fd : FuncData}
/-! many_things -/
theorem sc_many_things : FnScope ["field"] ["field"] (defScope s_many_things) := ⟨rfl, rfl, rfl, by decide +kernel, rfl, by decide +kernel, by decide +kernel⟩
/-! times_itself -/
theorem sc_times_itself : FnScope ["field", "one", "many", "product"] ["field", "one", "many"] (defScope s_times_itself) := ⟨rfl, rfl, rfl, by decide +kernel, rfl, by decide +kernel, by decide +kernel⟩
/-! over -/
/-! word_times -/
/-! the law's power, either way -/
end
end My

end
section
-- text: PSm
set_option Elab.async false
set_option linter.all false
set_option maxRecDepth 100000
set_option maxHeartbeats 4000000
namespace My
open PySem L2 Dg
section
variable {P : Program} {w : World} {K : PySem.W.Frag} {mg : Str → Option Value} {base : Heap} {f : Addr} {fd : FuncData}
end
end My

end
section
-- text: Q02a
set_option Elab.async false
set_option linter.all false
set_option maxRecDepth 100000
set_option maxHeartbeats 4000000
namespace My
open PySem L2 Dg
local macro_rules | `(tactic| walk_at "rd") => `(tactic| repeat (first | refine ⟨_, rfl, ?_⟩ | refine ⟨_, _, rfl, rfl, ?_⟩))
/-- a thing's ring, whether it makes a field or not -/
structure Rg (p m t : Nat) : Prop where
  hp : 2 ≤ p
  hm : 1 ≤ m
  hq : p ^ m ≤ 64
  top : t < p ^ m
theorem menu_rg {p m t : Nat} (h : (p, m) ∈ menu) (ht : t < p ^ m) : Rg p m t := ⟨(menu_small h).1, (menu_small h).2.1, (menu_small h).2.2, ht⟩
section
variable {p m t : Nat} (G : Rg p m t)
include G
theorem pw_halfR {x k : Nat} (hx : x < p ^ m) : pw p m t x k = mul p m t (if k % 2 = 1 then x else 1) (pw p m t (mul p m t x x) (k / 2)) := by
  have e2 : pw p m t x 2 = mul p m t x x := by show mul p m t (mul p m t 1 x) x = _; rw [one_mul G.hp G.hm hx]
  by_cases c : k % 2 = 1
  · rw [if_pos c, ← e2, ← pw_mul G.hp G.hm]
    rw [show pw p m t x k = pw p m t x (1 + 2 * (k / 2)) by congr 1; omega, pw_add G.hp G.hm, pw_one G.hp G.hm hx]
  · rw [if_neg c, ← e2, ← pw_mul G.hp G.hm, one_mul G.hp G.hm (pw_lt G.hp G.hm _ _)]
    congr 1; omega
end
noncomputable def allOne (p m t : Nat) : Bool := (List.range (p ^ m - 1)).all fun i => decide (pw p m t (1 + i) (p ^ m - 1) = 1)
theorem good_one {p m t : Nat} (mem : (p, m) ∈ menu) (ht : t < p ^ m) : allOne p m t = true ↔ Good p m t := by
  have R := menu_rg mem ht
  have hp := R.hp
  have hm := R.hm
  have hQ := one_lt hp hm
  constructor
  · intro h
    refine ⟨mem, ht, .inr fun x y hx hxq _ hy hyq e => ?_⟩
    have h1 := of_decide_eq_true (List.all_eq_true.mp h (x - 1) (List.mem_range.mpr (by omega)))
    rw [show 1 + (x - 1) = x by omega, show p ^ m - 1 = (p ^ m - 2) + 1 by omega] at h1
    have h2 : mul p m t (pw p m t x (p ^ m - 2)) x = 1 := h1
    have h3 : mul p m t (mul p m t (pw p m t x (p ^ m - 2)) x) y = y := by rw [h2, one_mul hp hm hyq]
    rw [mul_assoc hp hm, e, mul_zero hp hm] at h3
    omega
  · intro G
    unfold allOne
    rw [List.all_eq_true]
    intro i hi
    have hi := List.mem_range.mp hi
    exact decide_eq_true (G.fermat (by omega) (by omega))
theorem menu_prime : (menu.all fun c => (List.range c.1).all fun k => decide (k < 2) || decide (c.1 % k ≠ 0)) = true := by decide +kernel
section
variable {P : Program} {w : World} {K : PySem.W.Frag} {mg : Str → Option Value} {base : Heap} {f : Addr} {fd : FuncData}
theorem sc_is_whole : FnScope ["thing"] ["thing"] (defScope s_is_whole) := ⟨rfl, rfl, rfl, by decide +kernel, rfl, by decide +kernel, by decide +kernel⟩
theorem sc_is_wholes : FnScope ["thing", "many"] ["thing", "many"] (defScope s_is_wholes) := ⟨rfl, rfl, rfl, by decide +kernel, rfl, by decide +kernel, by decide +kernel⟩
theorem sc_is_prime : FnScope ["number", "low"] ["number"] (defScope s_is_prime) := ⟨rfl, rfl, rfl, by decide +kernel, rfl, by decide +kernel, by decide +kernel⟩
noncomputable def sp_itselfR (K : PySem.W.Frag) : Sp := fun vs H Q _ => ∃ (a : Addr) (p m t x n : Nat), vs = [.ref a, Vn x, Vn n] ∧ Fld K H a p m t ∧ Rg p m t ∧ x < p ^ m ∧ Q (Vn (pw p m t x n)) H
theorem ok_itselfR (B : Bl mg) (h_times : Has P w K mg base 3 "times" ["field", "one", "other"] (sp_times K)) (F : Fun K "times_itself" "times_itself" s_times_itself f fd) : FnOk P w K mg base CX0 4 f fd ["field", "one", "many"] (sp_itselfR K) := by
  refine F.ok sc_times_itself (fun vs H Q E h => ?_) (fun cdv A outer s H vs Q E hr h => ?_)
  · obtain ⟨a, p, m, t, x, n, rfl, _⟩ := h; rfl
  obtain ⟨a, p, m, t, x, n, rfl, hF, G, hx, q⟩ := h
  have hp := G.hp
  have hm := G.hm
  refine ⟨_, (@pss_cons _ _ _ _ _ (@ps_set _ _ 3 _ _ _ _ sc_times_itself.nd rfl (Or.inl rfl) pe_int (by rfl) (by first | exact .inl rfl | exact .inr rfl | assumption)) (@pss_cons _ _ _ _ _ (@ps_while _ _ _ _ _ _ PassesOwn.never (@pt_cmpR _ _ _ _ _ _ _ _ op_gt (pv 2) pe_int (nomark _)) (@pss_cons _ _ _ _ _ (@ps_if _ _ _ _ _ _ _ _ (@pt_cmpR _ _ _ _ _ _ _ _ op_eq (@pe_op _ _ _ _ _ _ _ _ op_mod (pv 2) pe_int) pe_int (nomark _)) (@pss_one _ _ _ (@ps_set _ _ 3 _ _ _ _ sc_times_itself.nd rfl (Or.inl rfl) (@pe_callH _ _ _ _ _ _ _ _ _ _ _ h_times hr (by decide) rfl (@pa_cons _ _ _ _ _ (pv 0) (@pa_cons _ _ _ _ _ (pv 3) (@pa_cons _ _ _ _ _ (pv 1) pa_nil (by rfl)) (by rfl)) (by rfl)) (by decide) (by rfl) (by rfl)) (by rfl) (by first | exact .inl rfl | exact .inr rfl | assumption))) pss_nil) (@pss_cons _ _ _ _ _ (@ps_aug _ _ 2 _ _ _ _ _ _ sc_times_itself.nd rfl (Or.inl rfl) pe_int iop_fdv (by first | exact .inl rfl | exact .inr rfl | assumption)) (@pss_one _ _ _ (@ps_if _ _ _ _ _ _ _ _ (@pt_cmpR _ _ _ _ _ _ _ _ op_gt (pv 2) pe_int (nomark _)) (@pss_one _ _ _ (@ps_set _ _ 1 _ _ _ _ sc_times_itself.nd rfl (Or.inl rfl) (@pe_callH _ _ _ _ _ _ _ _ _ _ _ h_times hr (by decide) rfl (@pa_cons _ _ _ _ _ (pv 0) (@pa_cons _ _ _ _ _ (pv 1) (@pa_cons _ _ _ _ _ (pv 1) pa_nil (by rfl)) (by rfl)) (by rfl)) (by decide) (by rfl) (by rfl)) (by rfl) (by first | exact .inl rfl | exact .inr rfl | assumption))) pss_nil))))) (@pss_one _ _ _ (@ps_ret _ _ _ _ (pv 3))))), ?_⟩
  refine while_go (fun σ H' => H' = H ∧ ∃ (o k pr : Nat), σ = [some (.ref a), some (Vn o), some (Vn k), some (Vn pr)] ∧ o < p ^ m ∧ pr < p ^ m ∧ mul p m t pr (pw p m t o k) = pw p m t x n)
    (fun σ _ => mI σ 2) ⟨rfl, x, n, 1, rfl, hx, one_lt hp hm, one_mul hp hm (pw_lt hp hm _ _)⟩ ?_
  rintro σ H' ⟨rfl, o, k, pr, rfl, ho, hpr, he⟩
  walk_at "rd"
  refine ite2 (fun c => ?_) (fun c => ?_)
  · have c' : 0 < k := by have := of_decide_eq_true c; omega
    refine ⟨fun σ' H'' => H'' = H' ∧ ∃ (o' pr' : Nat), σ' = [some (.ref a), some (Vn o'), some (Vn (k / 2)), some (Vn pr')] ∧ o' < p ^ m ∧ pr' < p ^ m ∧ mul p m t pr' (pw p m t o' (k / 2)) = pw p m t x n, ?_, ?_⟩
    · rintro σ' H'' ⟨rfl, o', pr', rfl, b1, b2, b3⟩
      exact ⟨_, by show k / 2 < k; exact Nat.div_lt_self c' (by omega), rfl, rfl, o', k / 2, pr', rfl, b1, b2, b3⟩
    refine seq_cut (fun σ' H'' => H'' = H' ∧ ∃ pr' : Nat, σ' = [some (.ref a), some (Vn o), some (Vn k), some (Vn pr')] ∧ pr' < p ^ m ∧ mul p m t pr' (pw p m t (mul p m t o o) (k / 2)) = pw p m t x n) ?_ ?_
    · rintro σ' H'' ⟨rfl, pr', rfl, hpr', he'⟩
      walk_at "rd"
      refine ⟨⟨by show (0 : Int) < 2; decide, by show (2 : Int) < 2 ^ 64; decide⟩, ?_⟩
      walk_at "rd"
      refine ite2 (fun c2 => ?_) (fun c2 => ?_)
      · refine ⟨_, rfl, _, rfl, _, rfl, a, p, m, t, o, o, rfl, hF, hp, hm, G.hq, G.top, ho, ho, fun r br hr => ?_⟩
        cases mul_of hp hm br hr
        exact ⟨rfl, _, pr', rfl, mul_lt hp hm _ _, hpr', he'⟩
      · have k0 : k / 2 = 0 := by
          have := of_decide_eq_false (Bool.eq_false_iff.mpr c2)
          have e : ((k / 2 : Nat) : Int) = (k : Int) / 2 := rfl
          omega
        rw [k0] at he'
        refine ⟨rfl, o, pr', rfl, ho, hpr', ?_⟩
        rw [k0]; exact he'
    · intro D' _ _ _ hD'
      refine ⟨_, rfl, _, _, rfl, rfl, by show (0 : Int) < 2; decide, rfl, _, rfl, ?_⟩
      have ed : decide (V.int ((k : Int) % 2) = V.int 1) = decide (k % 2 = 1) := decide_eq_decide.mpr ⟨fun e => by injection e with e; omega, fun e => by congr 1; omega⟩
      rw [ed]
      rw [pw_halfR G ho, ← mul_assoc hp hm] at he
      refine ite2 (fun c2 => ?_) (fun c2 => ?_)
      · have c3 : k % 2 = 1 := of_decide_eq_true c2
        rw [if_pos c3] at he
        refine ⟨_, rfl, _, rfl, _, rfl, a, p, m, t, pr, o, rfl, hF, hp, hm, G.hq, G.top, hpr, ho, fun r br hr => ?_⟩
        cases mul_of hp hm br hr
        exact hD' _ _ ⟨rfl, _, rfl, mul_lt hp hm _ _, he⟩
      · have c3 : ¬ k % 2 = 1 := fun h => c2 (decide_eq_true h)
        rw [if_neg c3, mul_one hp hm hpr] at he
        exact hD' _ _ ⟨rfl, _, rfl, hpr, he⟩
  · have c' : k = 0 := by have := of_decide_eq_false (Bool.eq_false_iff.mpr c); omega
    subst c'
    refine ⟨_, rfl, ?_⟩
    have e : pr = pw p m t x n := by rw [← he]; exact (mul_one hp hm hpr).symm
    rw [e]
    exact q
noncomputable def sp_alloneR (K : PySem.W.Frag) : Sp := fun vs H Q _ => ∃ (a : Addr) (p m t : Nat), vs = [.ref a] ∧ Fld K H a p m t ∧ Rg p m t ∧ Q (.bl (allOne p m t)) H
theorem sc_all_come_to_one : FnScope ["field", "others", "one"] ["field"] (defScope s_all_come_to_one) := ⟨rfl, rfl, rfl, by decide +kernel, rfl, by decide +kernel, by decide +kernel⟩
noncomputable def sp_goodI (K : PySem.W.Frag) : Sp := fun vs H Q _ => ∃ (a : Addr) (p m t : Nat), vs = [.ref a] ∧ Fld K H a p m t ∧ 2 ≤ p ∧ 1 ≤ m ∧ p ^ m ≤ 64 ∧ t < p ^ m ∧
  ∀ (b : Bool) H', Same H H' → (b = true ↔ ∀ x y, 0 < x → x < p ^ m → x < p ^ (m / 2 + 1) → 0 < y → y < p ^ m → mul p m t x y ≠ 0) → Q (.bl b) H'
theorem ok_goodI (B : Bl mg) (h__law_raised : Has P w K mg base 1 "_law_raised" ["_law_one", "_law_many"] sp_number_power) (h__law_product : Has P w K mg base 2 "_law_product" ["_law_field_here", "_law_one", "_law_other"] (sp_product K)) (F : Fun K "_law_is_good" "_law_is_good" s__law_is_good f fd) : FnOk P w K mg base CX0 3 f fd ["_law_field_here"] (sp_goodI K) := by
  refine F.ok sc__law_is_good (fun vs H Q E h => ?_) (fun cdv A outer s H vs Q E hr h => ?_)
  · obtain ⟨a, p, m, t, rfl, _⟩ := h; rfl
  obtain ⟨a, p, m, t, rfl, hF, hp, hm, hpm, ht, q⟩ := h
  have hp2 := p_le hp hm hpm
  have hm6 := m_le hp hpm
  have hpos : 0 < p ^ m := Nat.pow_pos (by omega)
  refine ⟨_, (@pss_cons _ _ _ _ _ (@ps_asg _ _ _ _ _ _ (pv 0) (@pg_tup _ _ _ _ _ _ rfl (@pgs_cons _ _ _ _ _ (@pg_name _ _ 1 _ sc__law_is_good.nd rfl (Or.inl rfl) (by first | exact .inl rfl | exact .inr rfl | assumption)) (@pgs_cons _ _ _ _ _ (@pg_name _ _ 2 _ sc__law_is_good.nd rfl (Or.inl rfl) (by first | exact .inl rfl | exact .inr rfl | assumption)) (@pgs_cons _ _ _ _ _ (@pg_name _ _ 3 _ sc__law_is_good.nd rfl (Or.inl rfl) (by first | exact .inl rfl | exact .inr rfl | assumption)) pgs_nil (by rfl)) (by rfl)) (by rfl)) (by rfl) (by rfl)) (by rfl) (by rfl) (by rfl)) (@pss_cons _ _ _ _ _ (@ps_set _ _ 4 _ _ _ _ sc__law_is_good.nd rfl (Or.inl rfl) (@pe_callH _ _ _ _ _ _ _ _ _ _ _ h__law_raised hr (by decide) rfl (@pa_cons _ _ _ _ _ (pv 1) (@pa_cons _ _ _ _ _ (pv 2) pa_nil (by rfl)) (by rfl)) (by decide) (by rfl) (by rfl)) (by rfl) (by first | exact .inl rfl | exact .inr rfl | assumption)) (@pss_cons _ _ _ _ _ (@ps_for _ _ _ _ _ _ _ _ PassesOwn.never rfl (@pi_range2 _ _ _ _ _ _ _ rfl (B "range" (by decide)) (@pa_cons _ _ _ _ _ pe_int (@pa_cons _ _ _ _ _ (@pe_callB _ _ _ _ _ _ _ _ _ (call_min2 rfl) rfl (B "min" (by decide)) boot_bi_min (@pa_cons _ _ _ _ _ (pv 4) (@pa_cons _ _ _ _ _ (@pe_callH _ _ _ _ _ _ _ _ _ _ _ h__law_raised hr (by decide) rfl (@pa_cons _ _ _ _ _ (pv 1) (@pa_cons _ _ _ _ _ (@pe_op _ _ _ _ _ _ _ _ op_add (@pe_op _ _ _ _ _ _ _ _ op_fdv (pv 2) pe_int) pe_int) pa_nil (by rfl)) (by rfl)) (by decide) (by rfl) (by rfl)) pa_nil (by rfl)) (by rfl)) (by decide) (by decide) (by rfl) (by rfl)) pa_nil (by rfl)) (by rfl)) (by rfl) (by rfl)) (@pg_name _ _ 5 _ sc__law_is_good.nd rfl (Or.inr rfl) (by first | exact .inl rfl | exact .inr rfl | assumption)) (@pss_one _ _ _ (@ps_if _ _ _ _ _ _ _ _ (@pt_not _ _ _ _ (@pt_val _ _ _ (@pe_callB _ _ _ _ _ _ _ _ _ (call_all rfl) rfl (B "all" (by decide)) PyProof.Rows.boot_all (@pa_cons _ _ _ _ _ (@pe_lcomp _ _ _ _ _ _ _ ["_law_other"] ["_law_field_here", "_law_one"] [0, 5] _ _ _ _ (id (α := CSc ["_law_field_here", "_law_p", "_law_m", "_law_top", "_law_many", "_law_one"] (defScope s__law_is_good) ["_law_other"] ["_law_field_here", "_law_one"] [0, 5] _) ⟨by rfl, by decide +kernel, by decide +kernel, by decide +kernel, by decide +kernel, by rfl, by decide +kernel⟩) rfl (@pi_range2 _ _ _ _ _ _ _ rfl (B "range" (by decide)) (@pa_cons _ _ _ _ _ pe_int (@pa_cons _ _ _ _ _ (pv 4) pa_nil (by rfl)) (by rfl)) (by rfl) (by rfl)) (fun cl C fp s H => (@pg_name _ _ 0 _ (by show List.Nodup (["_law_other", "_law_field_here", "_law_one"] : List Str); decide +kernel) rfl (Or.inl rfl) (by first | exact .inl rfl | exact .inr rfl | assumption))) (fun _ _ _ _ _ => pifs_nil) (fun _ _ _ _ _ => (@pe_cmpR _ _ _ _ _ _ _ _ op_gt (@pe_callH _ _ _ _ _ _ _ _ _ _ _ h__law_product hr (by decide) rfl (@pa_cons _ _ _ _ _ (pv 1) (@pa_cons _ _ _ _ _ (pv 2) (@pa_cons _ _ _ _ _ (pv 0) pa_nil (by rfl)) (by rfl)) (by rfl)) (by decide) (by rfl) (by rfl)) pe_int (nomark _))) (by intro _; rfl)) pa_nil (by rfl)) (by decide) (by decide) (by rfl) (by rfl)) (by intro _; rfl))) (@pss_one _ _ _ (@ps_ret _ _ _ _ pe_bl)) pss_nil)) (by intro _; rfl)) (@pss_one _ _ _ (@ps_ret _ _ _ _ pe_bl))))), ?_⟩
  refine ⟨_, rfl, a, _, rfl, hF, rfl, _, _, rfl, _, _, rfl, _, _, rfl, rfl, ?_⟩
  refine ⟨_, rfl, _, rfl, p, m, rfl, hp2, by omega, ?_⟩
  refine ⟨_, rfl, _, rfl, _, rfl, _, _, rfl, rfl, ⟨by show (0 : Int) < 2; decide, by show (2 : Int) < 2 ^ 64; decide⟩, ?_⟩
  refine ⟨_, _, rfl, rfl, ?_⟩
  refine ⟨p, m / 2 + 1, rfl, hp2, by omega, ?_⟩
  refine ⟨_, _, rfl, ?_⟩
  generalize hj : (if (((p ^ (m / 2 + 1) : Nat) : Int) < ((p ^ m : Nat) : Int)) then ((p ^ (m / 2 + 1) : Nat) : Int) else ((p ^ m : Nat) : Int)) = j
  have hj2 : 0 ≤ j ∧ j ≤ ((p ^ m : Nat) : Int) ∧ (∀ x : Nat, x < p ^ m → x < p ^ (m / 2 + 1) → (x : Int) < j) ∧ ∀ x : Nat, (x : Int) < j → x < p ^ m ∧ x < p ^ (m / 2 + 1) := by
    rw [← hj]; split
    · exact ⟨by omega, by omega, fun x h1 h2 => by omega, fun x h => by omega⟩
    · exact ⟨by omega, by omega, fun x h1 h2 => by omega, fun x h => by omega⟩
  refine ⟨1, j, rfl, ⟨by omega, by omega, by omega, by omega⟩, ?_⟩
  refine for_range (fun i σ H' => Same H H' ∧ (∀ x y, 0 < x → x < 1 + i → 0 < y → y < p ^ m → mul p m t x y ≠ 0) ∧ ∃ s, σ = [some (.ref a), some (Vn p), some (Vn m), some (Vn t), some (Vn (p ^ m)), s]) ⟨Same.refl _, fun x y h1 h2 => by omega, none, rfl⟩ ?_ ?_
  · rintro i σ H' hi ⟨sm, hno, s, rfl⟩
    refine ⟨_, rfl, 1, ((p ^ m : Nat) : Int), rfl, ⟨by omega, by omega, by omega, by omega⟩, ?_⟩
    refine comp_any seqs_range (fun k acc H1 => Same H H1 ∧ acc = ((List.range k).map fun j => decide (0 < mul p m t (1 + i) (1 + j))).map V.bl) ⟨sm, rfl⟩ (fun _ _ _ _ _ => trivial) ?_ ?_ ?_
    · rintro k acc H1 hk ⟨_, rfl⟩
      rw [List.length_map, List.length_map, List.length_range]; exact Nat.lt_of_le_of_lt (show k ≤ 1000 by omega) (small1000 (Nat.le_refl _))
    · rintro k acc x H1 H2 hk ⟨sm1, rfl⟩ ⟨rfl, rfl⟩
      refine ⟨_, rfl, _, rfl, _, rfl, a, p, m, t, 1 + i, 1 + k, rfl, Same.tup sm1 hF, hp, hm, hpm, ht, by omega, by omega, fun r H3 s3 br hr => ?_⟩
      have e := mul_of hp hm br hr
      subst e
      refine ⟨_, _, rfl, rfl, sm1.trans s3, ?_⟩
      rw [List.range_succ, List.map_append, List.map_append]
      refine congrArg (_ ++ [V.bl ·]) ?_
      show decide ((0 : Int) < ((mul p m t (1 + i) (1 + k) : Nat) : Int)) = decide (0 < mul p m t (1 + i) (1 + k))
      exact decide_eq_decide.mpr (by omega)
    · rintro acc H1 ⟨sm1, rfl⟩ D hD
      refine ⟨D, _, rfl, SqL.of upd_same, _, rfl, ?_⟩
      refine ite2 (fun c => ?_) (fun c => ?_)
      · refine q _ _ (sm1.trans (same_new hD _)) ⟨fun h => (by cases h), fun hz => ?_⟩
        have c2 : ((List.range (((p ^ m : Nat) : Int) - 1).toNat).map fun j => decide (0 < mul p m t (1 + i) (1 + j))).all id = true := by
          rw [List.all_eq_true]
          intro b hb
          obtain ⟨k, hk, rfl⟩ := List.mem_map.mp hb
          have hk := List.mem_range.mp hk
          have h9 := hj2.2.2.2 (1 + i) (by omega)
          exact decide_eq_true (Nat.pos_of_ne_zero (hz (1 + i) (1 + k) (by omega) h9.1 h9.2 (by omega) (by omega)))
        have c3 : (!((List.range (((p ^ m : Nat) : Int) - 1).toNat).map fun j => decide (0 < mul p m t (1 + i) (1 + j))).all id) = true := c
        rw [c2] at c3
        exact absurd c3 (by decide)
      · refine ⟨sm1.trans (same_new hD _), fun x y h1 h2 h3 h4 => ?_, _, rfl⟩
        by_cases hx : x < 1 + i
        · exact hno x y h1 hx h3 h4
        · have c2 : ((List.range (((p ^ m : Nat) : Int) - 1).toNat).map fun j => decide (0 < mul p m t (1 + i) (1 + j))).all id = true := of_nn c
          rw [List.all_eq_true] at c2
          have c3 := c2 (decide (0 < mul p m t (1 + i) (1 + (y - 1)))) (List.mem_map.mpr ⟨y - 1, List.mem_range.mpr (by omega), rfl⟩)
          have c4 : 0 < mul p m t (1 + i) (1 + (y - 1)) := of_decide_eq_true c3
          rw [show 1 + i = x by omega, show 1 + (y - 1) = y by omega] at c4
          omega
  · rintro σ H' ⟨sm, hno, s, rfl⟩
    refine q _ _ sm ⟨fun _ x y h1 h2 h3 h4 h5 => hno x y h1 ?_ h4 h5, fun _ => rfl⟩
    have := hj2.2.2.1 x h2 h3
    omega
end
end My

end
section
-- text: Q01a
set_option Elab.async false
set_option linter.all false
set_option maxRecDepth 100000
set_option maxHeartbeats 4000000
namespace My
open PySem L2 Dg
theorem take_more {α : Type} {xs : List α} {k : Nat} {a : α} (h : xs[k]? = some a) : xs.take (k + 1) = xs.take k ++ [a] := by
  obtain ⟨hk, e⟩ := List.getElem?_eq_some_iff.mp h
  rw [List.take_succ_eq_append_getElem hk, e]
theorem kind_int {K : PySem.W.Frag} {H : Hp} {z : V} (h : kindD K H z "int") : ∃ i, z = .int i := by
  rcases h with h | ⟨e, _⟩
  · cases z with
    | int i => exact ⟨i, rfl⟩
    | ref a => rcases h with ⟨e, _⟩ | ⟨e, _⟩ <;> exact absurd e (by decide)
    | non => exact absurd (show "int" = "NoneType" from h) (by decide)
    | bl b => exact absurd (show "int" = "bool" from h) (by decide)
    | str b => exact absurd (show "int" = "str" from h) (by decide)
    | _ => exact False.elim h
  · exact absurd e (by decide)
theorem same_lst {K : PySem.W.Frag} {H H' : Hp} {a : Addr} {xs : List V} (e : Same H H') (h : SqL K H a xs) : SqL K H' a xs := by
  rcases h with (h | ⟨o, h⟩) | h
  · exact .inl (.inl (e _ _ h))
  · exact .inl (.inr ⟨o, e _ _ h⟩)
  · exact .inr h
theorem kindV_same {K : PySem.W.Frag} {H H' : Hp} {x : V} {T : String} (s : Same H H') (h : kindV K H x T) : kindV K H' x T := by
  cases x with
  | ref a =>
    rcases h with ⟨e, xs, h⟩ | ⟨e, xs, h⟩
    · exact .inl ⟨e, xs, same_lst s h⟩
    · exact .inr ⟨e, xs, Same.tup s h⟩
  | _ => exact h
theorem kindD_same {K : PySem.W.Frag} {H H' : Hp} {x : V} {T : String} (s : Same H H') (h : kindD K H x T) : kindD K H' x T := by
  rcases h with h | ⟨e, a, kvs, ea, h⟩
  · exact .inl (kindV_same s h)
  · exact .inr ⟨e, a, kvs, ea, s _ _ h⟩
noncomputable def Kd (K : PySem.W.Frag) (H : Hp) (e : V) : Prop := ∃ T, kindD K H e T
theorem Kd.same {K : PySem.W.Frag} {H H' : Hp} {x : V} (s : Same H H') (h : Kd K H x) : Kd K H' x := by
  obtain ⟨T, h⟩ := h
  exact ⟨T, kindD_same s h⟩
theorem lst_x {K : PySem.W.Frag} {H H' : Hp} {pu g a : Addr} {xs : List V} (e : SameX pu g H H') (n : a ≠ pu ∧ a ≠ g) (h : SqL K H a xs) : SqL K H' a xs := by
  rcases h with (h | ⟨o, h⟩) | h
  · exact .inl (.inl (e _ _ n.1 n.2 h))
  · exact .inl (.inr ⟨o, e _ _ n.1 n.2 h⟩)
  · exact .inr h
theorem tup_x {K : PySem.W.Frag} {H H' : Hp} {pu g a : Addr} {xs : List V} (e : SameX pu g H H') (n : a ≠ pu ∧ a ≠ g) (h : SqT K H a xs) : SqT K H' a xs := by
  rcases h with (h | ⟨o, h⟩) | h
  · exact .inl (.inl (e _ _ n.1 n.2 h))
  · exact .inl (.inr ⟨o, e _ _ n.1 n.2 h⟩)
  · exact .inr h
theorem sl_go {K : PySem.W.Frag} {H : Hp} {pu g a : Addr} {xs : List V} {lo hi : Option Int} {Q : VK} (hP : Pu H pu g) (n : a ≠ pu ∧ a ≠ g) (h : SqT K H a xs) (q : ∀ (r : Addr) (ys : List V) H', Same H H' → SqT K H' r ys → (r ≠ pu ∧ r ≠ g) → ys.length ≤ xs.length → (∀ e ∈ ys, e ∈ xs) → Q (.ref r) H') : rSlA K (.ref a) lo hi H Q := by
  have hs : ∀ e ∈ cutV xs lo hi, e ∈ xs := fun e he => by
    unfold cutV at he
    exact List.mem_of_mem_drop (List.mem_of_mem_take he)
  refine ⟨a, _, rfl, h, fun e => ?_, fun l hl => ?_⟩
  · exact q a xs H (Same.refl _) h n (Nat.le_refl _) (fun _ h => h)
  · exact q l _ _ (same_new hl _) (SqT.of upd_same) (hP.lt hl) (cutV_length _ _ _) hs
theorem cat_gx {K : PySem.W.Frag} {H : Hp} {pu g a b : Addr} {xs ys : List V} {Q : VK} (hP : Pu H pu g) (na : a ≠ pu ∧ a ≠ g) (nb : b ≠ pu ∧ b ≠ g) (ha : SqT K H a xs) (hb : SqT K H b ys) (hl : xs.length + ys.length ≤ 1000) (q : ∀ (r : Addr) H', Same H H' → SqT K H' r (xs ++ ys) → (r ≠ pu ∧ r ≠ g) → Q (.ref r) H') : rCatU K (.ref a) (.ref b) H Q := by
  refine ⟨a, b, xs, ys, rfl, rfl, ha, hb, szl _ (by omega), fun e => ?_, fun _ e => ?_, fun _ _ p hp => q p _ (same_new hp _) (SqT.of upd_same) (hP.lt hp)⟩
  · subst e; exact q b H (Same.refl _) hb nb
  · subst e; exact q a H (Same.refl _) (by rw [List.append_nil]; exact ha) na
noncomputable def apV (pu g : Addr) (x : V) : Prop := ∀ a, x = .ref a → a ≠ pu ∧ a ≠ g
theorem kindD_x {K : PySem.W.Frag} {H H' : Hp} {pu g : Addr} {x : V} {T : String} (s : SameX pu g H H') (n : apV pu g x) (h : kindD K H x T) : kindD K H' x T := by
  rcases h with h | ⟨e, a, kvs, rfl, h⟩
  · cases x with
    | ref a =>
      rcases h with ⟨e, xs, h⟩ | ⟨e, xs, h⟩
      · exact .inl (.inl ⟨e, xs, lst_x s (n a rfl) h⟩)
      · exact .inl (.inr ⟨e, xs, tup_x s (n a rfl) h⟩)
    | _ => exact .inl h
  · exact .inr ⟨e, a, kvs, rfl, s _ _ (n a rfl).1 (n a rfl).2 h⟩
noncomputable def KdX (K : PySem.W.Frag) (H : Hp) (pu g : Addr) (e : V) : Prop := (∃ T, kindD K H e T) ∧ apV pu g e
theorem KdX.x {K : PySem.W.Frag} {H H' : Hp} {pu g : Addr} {e : V} (h : KdX K H pu g e) (s : SameX pu g H H') : KdX K H' pu g e := by
  obtain ⟨⟨T, h⟩, n⟩ := h
  exact ⟨⟨T, kindD_x s n h⟩, n⟩
noncomputable def ThX (K : PySem.W.Frag) (H : Hp) (pu g : Addr) (x : V) : Prop := (∃ T, kindD K H x T ∧ T ≠ "tuple" ∧ apV pu g x) ∨ ∃ a xs, x = .ref a ∧ SqT K H a xs ∧ (a ≠ pu ∧ a ≠ g) ∧ xs.length ≤ 200 ∧ ∀ e ∈ xs, KdX K H pu g e
theorem ThX.x {K : PySem.W.Frag} {H H' : Hp} {pu g : Addr} {e : V} (h : ThX K H pu g e) (s : SameX pu g H H') : ThX K H' pu g e := by
  rcases h with ⟨T, h, hT, n⟩ | ⟨a, xs, rfl, h, n, hl, hk⟩
  · exact .inl ⟨T, kindD_x s n h, hT, n⟩
  · exact .inr ⟨a, xs, rfl, tup_x s n h, n, hl, fun e he => (hk e he).x s⟩
theorem ThX.kd {K : PySem.W.Frag} {H : Hp} {pu g : Addr} {e : V} (h : ThX K H pu g e) : KdX K H pu g e := by
  rcases h with ⟨T, h, hT, n⟩ | ⟨a, xs, rfl, h, n, hl, hk⟩
  · exact ⟨⟨T, h⟩, n⟩
  · exact ⟨⟨"tuple", .inl (.inr ⟨rfl, xs, h⟩)⟩, fun b e => by cases e; exact n⟩
theorem apV_ref {pu g a : Addr} (n : a ≠ pu ∧ a ≠ g) : apV pu g (.ref a) := fun b e => by cases e; exact n
theorem kdx_int {K : PySem.W.Frag} {H : Hp} {pu g : Addr} (i : Int) : KdX K H pu g (.int i) := ⟨⟨"int", .inl rfl⟩, fun _ e => nomatch e⟩
theorem thx_flat {K : PySem.W.Frag} {H : Hp} {pu g : Addr} {x : V} {T : String} (h : kindV K H x T) (hT : T ≠ "tuple") (n : apV pu g x) : ThX K H pu g x := .inl ⟨T, .inl h, hT, n⟩
theorem thx_tup {K : PySem.W.Frag} {H : Hp} {pu g a : Addr} {xs : List V} (h : SqT K H a xs) (n : a ≠ pu ∧ a ≠ g) (hl : xs.length ≤ 200) (hk : ∀ e ∈ xs, KdX K H pu g e) : ThX K H pu g (.ref a) := .inr ⟨a, xs, rfl, h, n, hl, hk⟩
theorem kdx_row {K : PySem.W.Frag} {H : Hp} {pu g : Addr} (row : List Nat) : ∀ e ∈ row.map Vn, KdX K H pu g e := fun e he => by
  obtain ⟨y, _, rfl⟩ := List.mem_map.mp he
  exact kdx_int _
noncomputable def isI : V → Bool
  | .int _ => true
  | _ => false
theorem kind_isI {K : PySem.W.Frag} {H : Hp} {z : V} {T : String} (h : kindD K H z T) : (T == "int") = isI z := by
  by_cases c : T = "int"
  · subst c
    obtain ⟨i, rfl⟩ := kind_int h
    rfl
  · rw [show (T == "int") = false from by simpa using c]
    cases z with
    | int i =>
      rcases h with h | ⟨_, a, _, e, _⟩
      · exact absurd h c
      · cases e
    | _ => rfl
noncomputable def Res (K : PySem.W.Frag) (H : Hp) (fn : List V → Bool) (x : V) (b : Bool) : Prop := (∃ T, kindD K H x T ∧ T ≠ "tuple" ∧ b = false) ∨ ∃ a xs, x = .ref a ∧ SqT K H a xs ∧ xs.length ≤ 200 ∧ (∀ e ∈ xs, Kd K H e) ∧ b = fn xs
theorem Res.same {K : PySem.W.Frag} {H H' : Hp} {fn : List V → Bool} {x : V} {b : Bool} (s : Same H H') (h : Res K H fn x b) : Res K H' fn x b := by
  rcases h with ⟨T, h1, h2⟩ | ⟨a, xs, e, h1, hl, h2, h3⟩
  · exact .inl ⟨T, kindD_same s h1, h2⟩
  · exact .inr ⟨a, xs, e, Same.tup s h1, hl, fun e he => (h2 e he).same s, h3⟩
theorem ThX.res {K : PySem.W.Frag} {H : Hp} {pu g : Addr} {x : V} (h : ThX K H pu g x) (fn : List V → Bool) : ∃ b, Res K H fn x b := by
  rcases h with ⟨T, h, hT, n⟩ | ⟨a, xs, rfl, h, n, hl, hk⟩
  · exact ⟨false, .inl ⟨T, h, hT, rfl⟩⟩
  · exact ⟨_, .inr ⟨a, xs, rfl, h, hl, fun e he => (hk e he).1, rfl⟩⟩
noncomputable def sp_isw (K : PySem.W.Frag) : Sp := fun vs H Q _ => ∃ (x : V) (T : String), vs = [x] ∧ kindD K H x T ∧ Q (.bl (T == "int")) H
noncomputable def sp_wholes (K : PySem.W.Frag) : Sp := fun vs H Q _ => ∃ (x : V) (c : Nat) (b : Bool), vs = [x, Vn c] ∧ Res K H (fun xs => decide (xs.length = c) && xs.all isI) x b ∧ ∀ H', Same H H' → Q (.bl b) H'
theorem mem_prime {p m low : Nat} (mem : (p, m) ∈ menu) (h2 : 2 ≤ low) (h : low < p) : p % low ≠ 0 := by
  have h1 := List.all_eq_true.mp menu_prime _ mem
  have h3 := List.all_eq_true.mp h1 low (List.mem_range.mpr h)
  rw [Bool.or_eq_true] at h3
  rcases h3 with h3 | h3
  · have := of_decide_eq_true h3; omega
  · exact of_decide_eq_true h3
noncomputable def prB (n : Nat) : Bool := (List.range (n - 2)).all fun j => decide (0 < n % (2 + j))
theorem pr_menu : ((List.range 63).all fun i => !prB (2 + i) || (List.range 6).all fun j => !decide ((2 + i) ^ (1 + j) < 65) || menu.contains (2 + i, 1 + j)) = true := by decide +kernel
theorem pr_mem {i j : Nat} (hi : i < 63) (hj : j < 6) (h1 : prB (2 + i) = true) (h2 : (2 + i) ^ (1 + j) < 65) : (2 + i, 1 + j) ∈ menu := by
  have g := List.all_eq_true.mp pr_menu i (List.mem_range.mpr hi)
  rw [h1, Bool.not_true, Bool.false_or] at g
  have g2 := List.all_eq_true.mp g j (List.mem_range.mpr hj)
  rw [decide_eq_true h2, Bool.not_true, Bool.false_or] at g2
  exact List.contains_iff_mem.mp g2
/-- what a row of three tells -/
noncomputable def fB : List V → Bool
  | [.int i, .int j, .int k] => @decide (∃ p m t : Nat, i = p ∧ j = m ∧ k = t ∧ Good p m t) (Classical.propDecidable _)
  | _ => false
theorem fB_no {xs : List V} (h : (decide (xs.length = 3) && xs.all isI) = false) : fB xs = false := by
  unfold fB
  split
  · exact absurd h (by simp [isI])
  · rfl
theorem fB_yes {xs : List V} (h : (decide (xs.length = 3) && xs.all isI) = true) : ∃ i j k, xs = [.int i, .int j, .int k] := by
  rw [Bool.and_eq_true] at h
  obtain ⟨h1, h2⟩ := h
  have h1 := of_decide_eq_true h1
  match xs, h1 with
  | [x, y, z], _ =>
    simp only [List.all_cons, List.all_nil, Bool.and_true, Bool.and_eq_true] at h2
    obtain ⟨a, b, c⟩ := h2
    cases x <;> first | cases a | skip
    cases y <;> first | cases b | skip
    cases z <;> first | cases c | skip
    exact ⟨_, _, _, rfl⟩
theorem fB_f {i j k : Int} (h : ∀ p m t : Nat, i = p → j = m → k = t → ¬ Good p m t) : fB [.int i, .int j, .int k] = false := by
  show @decide _ (Classical.propDecidable _) = false
  exact @decide_eq_false _ (Classical.propDecidable _) fun ⟨p, m, t, a, b, c, d⟩ => h p m t a b c d
theorem fB_b {p m t : Nat} {b : Bool} (h : b = true ↔ Good p m t) : fB [.int (p : Int), .int (m : Int), .int (t : Int)] = b := by
  show @decide _ (Classical.propDecidable _) = b
  cases b with
  | true => exact @decide_eq_true _ (Classical.propDecidable _) ⟨p, m, t, rfl, rfl, rfl, h.mp rfl⟩
  | false =>
    refine @decide_eq_false _ (Classical.propDecidable _) fun ⟨p', m', t', a, b, c, d⟩ => ?_
    cases Int.ofNat.inj a; cases Int.ofNat.inj b; cases Int.ofNat.inj c
    exact absurd (h.mpr d) (by decide)
section
variable {P : Program} {w : World} {K : PySem.W.Frag} {mg : Str → Option Value} {base : Heap} {f : Addr} {fd : FuncData}
theorem ok_isw (B : Bl mg) (F : Fun K "is_whole" "is_whole" s_is_whole f fd) : FnOk P w K mg base CX0 1 f fd ["thing"] (sp_isw K) := by
  refine F.ok sc_is_whole (fun vs H Q E h => ?_) (fun cdv A outer s H vs Q E hr h => ?_)
  · obtain ⟨x, T, rfl, _⟩ := h; rfl
  obtain ⟨x, T, rfl, hk, q⟩ := h
  refine ⟨_, (@pss_one _ _ _ (@ps_ret _ _ _ _ (@pe_and _ _ _ _ _ _ _ (@pe_callB _ _ _ _ _ _ _ _ _ isiD_int rfl (B "isinstance" (by decide)) PyProof.Rows.boot_isinstance (@pa_cons _ _ _ _ _ (pv 0) (@pa_cons _ _ _ _ _ (@pe_bltn _ _ _ _ _ rfl (B "int" (by decide)) boot_ty_int (id (α := RelV (.ty "int") (.type "int")) rfl) (by decide) (by decide)) pa_nil (by rfl)) (by rfl)) (by decide) (by decide) (by rfl) (by rfl)) (@pe_one _ _ _ _ _ (@pe_not _ _ _ _ (@pe_callB _ _ _ _ _ _ _ _ _ isiD_bool rfl (B "isinstance" (by decide)) PyProof.Rows.boot_isinstance (@pa_cons _ _ _ _ _ (pv 0) (@pa_cons _ _ _ _ _ (@pe_bltn _ _ _ _ _ rfl (B "bool" (by decide)) boot_ty_bool (id (α := RelV (.ty "bool") (.type "bool")) rfl) (by decide) (by decide)) pa_nil (by rfl)) (by rfl)) (by decide) (by decide) (by rfl) (by rfl))))))), ?_⟩
  refine ⟨_, rfl, x, T, rfl, hk, _, rfl, ?_⟩
  refine ite2 (fun c => ?_) (fun c => ?_)
  · refine ⟨_, rfl, x, T, rfl, hk, _, rfl, ?_⟩
    have e : (!subK T "bool") = (T == "int") := by
      by_cases h : T = "int"
      · subst h; decide
      · have h2 : T = "bool" := by
          unfold subK at c
          simp [h] at c
          exact c
        subst h2; decide
    rw [e]; exact q
  · have e : (T == "int") = false := by
      cases h : (T == "int") with
      | false => rfl
      | true => exact absurd (by unfold subK; rw [h]; rfl) c
    rw [e] at q; exact q
theorem ok_wholes (B : Bl mg) (h_is_whole : Has P w K mg base 1 "is_whole" ["thing"] (sp_isw K)) (F : Fun K "is_wholes" "is_wholes" s_is_wholes f fd) : FnOk P w K mg base CX0 2 f fd ["thing", "many"] (sp_wholes K) := by
  refine F.ok sc_is_wholes (fun vs H Q E h => ?_) (fun cdv A outer s H vs Q E hr h => ?_)
  · obtain ⟨x, c, b, rfl, _⟩ := h; rfl
  obtain ⟨x, c, b, rfl, hx, q⟩ := h
  refine ⟨_, (@pss_cons _ _ _ _ _ (@ps_if _ _ _ _ _ _ _ _ (@PW.pt _ _ _ (@pw_or _ _ _ _ _ _ _ (@pt_not _ _ _ _ (@pt_val _ _ _ (@pe_callB _ _ _ _ _ _ _ _ _ isiD_tuple rfl (B "isinstance" (by decide)) PyProof.Rows.boot_isinstance (@pa_cons _ _ _ _ _ (pv 0) (@pa_cons _ _ _ _ _ (@pe_bltn _ _ _ _ _ rfl (B "tuple" (by decide)) boot_ty_tuple (id (α := RelV (.ty "tuple") (.type "tuple")) rfl) (by decide) (by decide)) pa_nil (by rfl)) (by rfl)) (by decide) (by decide) (by rfl) (by rfl)) (by intro _; rfl))) (@pw_or1 _ _ _ _ (@pt_cmpR _ _ _ _ _ _ _ _ op_ne (@pe_callB _ _ _ _ _ _ _ _ _ call_len_seq rfl (B "len" (by decide)) PySem.boot_len (@pa_cons _ _ _ _ _ (pv 0) pa_nil (by rfl)) (by decide) (by decide) (by rfl) (by rfl)) (pv 1) (nomark _))))) (@pss_one _ _ _ (@ps_ret _ _ _ _ pe_bl)) pss_nil) (@pss_one _ _ _ (@ps_ret _ _ _ _ (@pe_callB _ _ _ _ _ _ _ _ _ (call_all rfl) rfl (B "all" (by decide)) PyProof.Rows.boot_all (@pa_cons _ _ _ _ _ (@pe_lcomp _ _ _ _ _ _ _ ["part"] [] [] _ _ _ _ (id (α := CSc ["thing", "many"] (defScope s_is_wholes) ["part"] [] [] _) ⟨by rfl, by decide +kernel, by decide +kernel, by decide +kernel, by decide +kernel, by rfl, by decide +kernel⟩) rfl (@pi_tup _ _ _ _ (pv 0)) (fun cl C fp s H => (@pg_name _ _ 0 _ (by show List.Nodup (["part"] : List Str); decide +kernel) rfl (Or.inl rfl) (by first | exact .inl rfl | exact .inr rfl | assumption))) (fun _ _ _ _ _ => pifs_nil) (fun _ _ _ _ _ => (@pe_callH _ _ _ _ _ _ _ _ _ _ _ h_is_whole hr (by decide) rfl (@pa_cons _ _ _ _ _ (pv 0) pa_nil (by rfl)) (by decide) (by rfl) (by rfl))) (by intro _; rfl)) pa_nil (by rfl)) (by decide) (by decide) (by rfl) (by rfl))))), ?_⟩
  rcases hx with ⟨T, hk, hT, rfl⟩ | ⟨a, xs, rfl, ha, hl, hkd, rfl⟩
  · refine ⟨_, rfl, x, T, rfl, hk, _, rfl, ?_⟩
    have e : subK T "tuple" = false := by unfold subK; simp [hT]
    rw [e]
    refine ite2 (fun _ => ?_) (fun c => absurd rfl c)
    refine ite2 (fun _ => ?_) (fun c => absurd rfl c)
    exact q _ (Same.refl _)
  refine ⟨_, rfl, .ref a, "tuple", rfl, .inl (.inr ⟨rfl, xs, ha⟩), _, rfl, ?_⟩
  refine ite2 (fun c => absurd c (by decide)) (fun _ => ?_)
  refine ⟨_, rfl, a, xs, rfl, .inr ha, _, rfl, ?_⟩
  have ed : decide (V.int (xs.length : Int) = Vn c) = decide (xs.length = c) := decide_eq_decide.mpr ⟨fun e => by injection e with e; omega, fun e => by rw [e]⟩
  refine ⟨rfl, _, rfl, ?_⟩
  rw [ed]
  dsimp only at q
  by_cases hc : xs.length = c
  · rw [decide_eq_true hc] at q ⊢
    rw [Bool.true_and] at q
    refine ite2 (fun c => absurd c (by decide)) (fun _ => ?_)
    dsimp only [tNext]
    refine ⟨_, rfl, a, rfl, ⟨_, ha⟩, ?_⟩
    refine comp_any (seqs_tup (xs := xs)) (fun i acc H' => H' = H ∧ acc = (xs.take i).map fun e => V.bl (isI e)) ⟨rfl, rfl⟩ (fun i acc H' _ h => by rw [h.1]; exact ha) ?_ ?_ ?_
    · rintro i acc H' hi ⟨_, rfl⟩
      rw [List.length_map, List.length_take]; exact small1000 (by omega)
    · rintro i acc z H2 H2' hi ⟨rfl, rfl⟩ ⟨rfl, ez⟩
      obtain ⟨T, hk⟩ := hkd z (List.mem_of_getElem? ez)
      refine ⟨_, rfl, z, T, rfl, hk, rfl, ?_⟩
      rw [take_more ez, List.map_append, kind_isI hk]; rfl
    · rintro acc H2 ⟨rfl, rfl⟩ D hD
      rw [List.take_length]
      refine ⟨D, xs.map isI, rfl, SqL.of (by rw [upd_same, List.map_map]; rfl), ?_⟩
      have e : (xs.map isI).all id = xs.all isI := by rw [List.all_map]; rfl
      dsimp only
      rw [e]
      exact q _ (same_new hD _)
  · rw [decide_eq_false hc] at q ⊢
    refine ite2 (fun _ => ?_) (fun c => absurd rfl c)
    exact q _ (Same.refl _)
noncomputable def sp_primeA : Sp := fun vs H Q _ => ∃ (p : Nat), vs = [Vn p] ∧ 2 ≤ p ∧ p ≤ 64 ∧ Q (.bl (prB p)) H
theorem ok_primeA (B : Bl mg) (F : Fun K "is_prime" "is_prime" s_is_prime f fd) : FnOk P w K mg base CX0 1 f fd ["number"] sp_primeA := by
  refine F.ok sc_is_prime (fun vs H Q E h => ?_) (fun cdv A outer s H vs Q E hr h => ?_)
  · obtain ⟨p, rfl, _⟩ := h; rfl
  obtain ⟨p, rfl, h2, h64, q⟩ := h
  refine ⟨_, (@pss_cons _ _ _ _ _ (@ps_for _ _ _ _ _ _ _ _ PassesOwn.never rfl (@pi_range2 _ _ _ _ _ _ _ rfl (B "range" (by decide)) (@pa_cons _ _ _ _ _ pe_int (@pa_cons _ _ _ _ _ (pv 0) pa_nil (by rfl)) (by rfl)) (by rfl) (by rfl)) (@pg_name _ _ 1 _ sc_is_prime.nd rfl (Or.inl rfl) (by first | exact .inl rfl | exact .inr rfl | assumption)) (@pss_one _ _ _ (@ps_if _ _ _ _ _ _ _ _ (@pt_cmpR _ _ _ _ _ _ _ _ op_eq (@pe_op _ _ _ _ _ _ _ _ op_mod (pv 0) (pv 1)) pe_int (nomark _)) (@pss_one _ _ _ (@ps_ret _ _ _ _ pe_bl)) pss_nil)) (by intro _; rfl)) (@pss_one _ _ _ (@ps_ret _ _ _ _ pe_bl))), ?_⟩
  refine ⟨_, rfl, 2, (p : Int), rfl, by lia, ?_⟩
  refine for_range (lo := 2) (fun i σ' H' => H' = H ∧ (∀ k, k < i → 0 < p % (2 + k)) ∧ ∃ v1, σ' = [some (Vn p), v1]) ⟨rfl, fun k hk => by lia, _, rfl⟩ ?_ ?_
  · rintro i σ' H' hi ⟨rfl, hk, v1, rfl⟩
    have hl : 2 + i < p := by lia
    rw [show V.int (2 + (i : Int)) = Vn (2 + i) from ints_eq (by lia)]
    dsimp only [gName]
    have ed : decide (V.int ((p : Int) % ((2 + i : Nat) : Int)) = V.int 0) = decide (p % (2 + i) = 0) := dec_nat0 _
    refine ⟨_, rfl, _, rfl, _, _, rfl, rfl, by show (0 : Int) < ((2 + i : Nat) : Int); lia, rfl, decide (p % (2 + i) = 0), ?_, ?_⟩
    · show V.bl (decide (V.int ((p : Int) % ((2 + i : Nat) : Int)) = V.int 0)) = _
      rw [ed]
    refine ite2 (fun c => ?_) (fun c => ?_)
    · have c' := of_decide_eq_true c
      have e : prB p = false := Bool.eq_false_iff.mpr fun h => by
        have := of_decide_eq_true (List.all_eq_true.mp h i (List.mem_range.mpr (by lia)))
        lia
      rw [e] at q; exact q
    · refine ⟨rfl, fun k hk' => ?_, _, rfl⟩
      have c' : ¬ p % (2 + i) = 0 := fun e => c (decide_eq_true e)
      rcases Nat.lt_or_ge k i with h | h
      · exact hk k h
      · rw [show k = i by lia]; lia
  · rintro σ' H' ⟨rfl, hk, v1, rfl⟩
    have e : prB p = true := List.all_eq_true.mpr fun i hi => decide_eq_true (hk i (by have := List.mem_range.mp hi; lia))
    rw [e] at q; exact q
noncomputable def sp_manyI (K : PySem.W.Frag) : Sp := fun vs H Q _ => ∃ (a : Addr) (p m : Nat) (v : V), vs = [.ref a] ∧ SqT K H a [Vn p, Vn m, v] ∧ p ≤ 64 ∧ m ≤ 1000 ∧ Q (Vn (p ^ m)) H
theorem ok_manyI (B : Bl mg) (h_number_power : Has P w K mg base 1 "number_power" ["base", "many"] sp_number_power) (F : Fun K "many_things" "many_things" s_many_things f fd) : FnOk P w K mg base CX0 2 f fd ["field"] (sp_manyI K) := by
  refine F.ok sc_many_things (fun vs H Q E h => ?_) (fun cdv A outer s H vs Q E hr h => ?_)
  · obtain ⟨a, p, m, t, rfl, _⟩ := h; rfl
  obtain ⟨a, p, m, t, rfl, hF, hp, hm, q⟩ := h
  refine ⟨_, (@pss_one _ _ _ (@ps_ret _ _ _ _ (@pe_callH _ _ _ _ _ _ _ _ _ _ _ h_number_power hr (by decide) rfl (@pa_cons _ _ _ _ _ (@pe_ix _ _ _ _ _ _ _ ix_tup (pv 0) pe_int (fun _ _ => rfl)) (@pa_cons _ _ _ _ _ (@pe_ix _ _ _ _ _ _ _ ix_tup (pv 0) pe_int (fun _ _ => rfl)) pa_nil (by rfl)) (by rfl)) (by decide) (by rfl) (by rfl)))), ?_⟩
  refine ⟨_, rfl, a, _, _, _, rfl, rfl, hF, rfl, _, rfl, a, _, _, _, rfl, rfl, hF, rfl, p, m, rfl, hp, hm, q⟩
theorem ok_alloneA (B : Bl mg) (h_many_things : Has P w K mg base 2 "many_things" ["field"] (sp_manyI K)) (h_times_itself : Has P w K mg base 4 "times_itself" ["field", "one", "many"] (sp_itselfR K)) (F : Fun K "all_come_to_one" "all_come_to_one" s_all_come_to_one f fd) : FnOk P w K mg base CX0 5 f fd ["field"] (sp_alloneR K) := by
  refine F.ok sc_all_come_to_one (fun vs H Q E h => ?_) (fun cdv A outer s H vs Q E hr h => ?_)
  · obtain ⟨a, p, m, t, rfl, _⟩ := h; rfl
  obtain ⟨a, p, m, t, rfl, hF, G, q⟩ := h
  have hp := G.hp
  have hm := G.hm
  have hQ := one_lt hp hm
  have hq := G.hq
  refine ⟨_, (@pss_cons _ _ _ _ _ (@ps_set _ _ 1 _ _ _ _ sc_all_come_to_one.nd rfl (Or.inl rfl) (@pe_op _ _ _ _ _ _ _ _ op_sub (@pe_callH _ _ _ _ _ _ _ _ _ _ _ h_many_things hr (by decide) rfl (@pa_cons _ _ _ _ _ (pv 0) pa_nil (by rfl)) (by decide) (by rfl) (by rfl)) pe_int) (by rfl) (by first | exact .inl rfl | exact .inr rfl | assumption)) (@pss_cons _ _ _ _ _ (@ps_for _ _ _ _ _ _ _ _ PassesOwn.never rfl (@pi_range2 _ _ _ _ _ _ _ rfl (B "range" (by decide)) (@pa_cons _ _ _ _ _ pe_int (@pa_cons _ _ _ _ _ (@pe_op _ _ _ _ _ _ _ _ op_add (pv 1) pe_int) pa_nil (by rfl)) (by rfl)) (by rfl) (by rfl)) (@pg_name _ _ 2 _ sc_all_come_to_one.nd rfl (Or.inl rfl) (by first | exact .inl rfl | exact .inr rfl | assumption)) (@pss_one _ _ _ (@ps_if _ _ _ _ _ _ _ _ (@pt_cmpR _ _ _ _ _ _ _ _ op_ne (@pe_callH _ _ _ _ _ _ _ _ _ _ _ h_times_itself hr (by decide) rfl (@pa_cons _ _ _ _ _ (pv 0) (@pa_cons _ _ _ _ _ (pv 2) (@pa_cons _ _ _ _ _ (pv 1) pa_nil (by rfl)) (by rfl)) (by rfl)) (by decide) (by rfl) (by rfl)) pe_int (nomark _)) (@pss_one _ _ _ (@ps_ret _ _ _ _ pe_bl)) pss_nil)) (by intro _; rfl)) (@pss_one _ _ _ (@ps_ret _ _ _ _ pe_bl)))), ?_⟩
  refine ⟨_, rfl, a, p, m, Vn t, rfl, hF, p_le hp hm G.hq, by have := m_le hp G.hq; omega, _, _, rfl, rfl, ?_⟩
  dsimp only [gName]
  rw [show ((p ^ m : Nat) : Int) - 1 = ((p ^ m - 1 : Nat) : Int) by omega]
  refine ⟨_, rfl, _, _, rfl, rfl, ?_⟩
  refine ⟨1, ((p ^ m : Nat) : Int), by show [V.int 1, V.int (((p ^ m - 1 : Nat) : Int) + 1)] = _; rw [show ((p ^ m - 1 : Nat) : Int) + 1 = ((p ^ m : Nat) : Int) by omega], by omega, ?_⟩
  refine for_range (lo := 1) (fun i σ' H' => H' = H ∧ (∀ k, k < i → pw p m t (1 + k) (p ^ m - 1) = 1) ∧ ∃ v2, σ' = [some (.ref a), some (Vn (p ^ m - 1)), v2]) ⟨rfl, fun k hk => by omega, _, rfl⟩ ?_ ?_
  · rintro i σ' H' hi ⟨rfl, hk, v1, rfl⟩
    have hl : 1 + i < p ^ m := by omega
    rw [show V.int (1 + (i : Int)) = Vn (1 + i) from ints_eq (by omega)]
    dsimp only [gName]
    refine ⟨_, rfl, _, rfl, _, rfl, a, p, m, t, 1 + i, p ^ m - 1, rfl, hF, G, hl, ?_⟩
    have ed : decide (Vn (pw p m t (1 + i) (p ^ m - 1)) = V.int 1) = decide (pw p m t (1 + i) (p ^ m - 1) = 1) := decide_eq_decide.mpr ⟨fun h => by have := V.int.inj h; omega, fun h => by rw [h]; rfl⟩
    refine ⟨rfl, !decide (pw p m t (1 + i) (p ^ m - 1) = 1), by show V.bl (!decide (Vn (pw p m t (1 + i) (p ^ m - 1)) = V.int 1)) = _; rw [ed], ?_⟩
    refine ite2 (fun c => ?_) (fun c => ?_)
    · have c' : ¬ pw p m t (1 + i) (p ^ m - 1) = 1 := fun e => by rw [decide_eq_true e] at c; exact absurd c (by decide)
      have e : allOne p m t = false := Bool.eq_false_iff.mpr fun h => c' (of_decide_eq_true (List.all_eq_true.mp h i (List.mem_range.mpr (by omega))))
      rw [e] at q
      exact q
    · have c' : pw p m t (1 + i) (p ^ m - 1) = 1 := Classical.byContradiction fun e => c (by rw [decide_eq_false e]; rfl)
      refine ⟨rfl, fun k hk' => ?_, _, rfl⟩
      rcases Nat.lt_or_ge k i with h | h
      · exact hk k h
      · rw [show k = i by omega]; exact c'
  · rintro σ' H' ⟨rfl, hk, v1, rfl⟩
    have e : allOne p m t = true := by
      unfold allOne
      rw [List.all_eq_true]
      intro i hi
      exact decide_eq_true (hk i (by have := List.mem_range.mp hi; omega))
    rw [e] at q
    exact q
end
end My

end
section
-- text: Q01b
set_option Elab.async false
set_option linter.all false
set_option maxRecDepth 100000
set_option maxHeartbeats 4000000
namespace My
open PySem L2 Dg
section
variable {P : Program} {w : World} {K : PySem.W.Frag} {mg : Str → Option Value} {base : Heap} {f : Addr} {fd : FuncData}
noncomputable def sp_isfieldA (K : PySem.W.Frag) : Sp := fun vs H Q _ => ∃ (x : V) (b : Bool), vs = [x] ∧ Res K H fB x b ∧ ∀ H', Same H H' → Q (.bl b) H'
theorem sc_is_field : FnScope ["thing", "p", "m", "top", "many"] ["thing"] (defScope s_is_field) := ⟨rfl, rfl, rfl, by decide +kernel, rfl, by decide +kernel, by decide +kernel⟩
theorem ok_isfieldA {tk : Tok} (m_MOST_THINGS : mg "MOST_THINGS" = some (.int 64 tk)) (B : Bl mg) (h_is_wholes : Has P w K mg base 2 "is_wholes" ["thing", "many"] (sp_wholes K)) (h_is_prime : Has P w K mg base 1 "is_prime" ["number"] sp_primeA) (h_many_things : Has P w K mg base 2 "many_things" ["field"] (sp_manyI K)) (h_all_come_to_one : Has P w K mg base 5 "all_come_to_one" ["field"] (sp_alloneR K)) (F : Fun K "is_field" "is_field" s_is_field f fd) : FnOk P w K mg base CX0 6 f fd ["thing"] (sp_isfieldA K) := by
  refine F.ok sc_is_field (fun vs H Q E h => ?_) (fun cdv A outer s H vs Q E hr h => ?_)
  · obtain ⟨x, b, rfl, _⟩ := h; rfl
  obtain ⟨x, b, rfl, hx, q⟩ := h
  refine ⟨_, (@pss_cons _ _ _ _ _ (@ps_if _ _ _ _ _ _ _ _ (@pt_not _ _ _ _ (@pt_val _ _ _ (@pe_callH _ _ _ _ _ _ _ _ _ _ _ h_is_wholes hr (by decide) rfl (@pa_cons _ _ _ _ _ (pv 0) (@pa_cons _ _ _ _ _ pe_int pa_nil (by rfl)) (by rfl)) (by decide) (by rfl) (by rfl)) (by intro _; rfl))) (@pss_one _ _ _ (@ps_ret _ _ _ _ pe_bl)) pss_nil) (@pss_cons _ _ _ _ _ (@ps_asg _ _ _ _ _ _ (pv 0) (@pg_tup _ _ _ _ _ _ rfl (@pgs_cons _ _ _ _ _ (@pg_name _ _ 1 _ sc_is_field.nd rfl (Or.inl rfl) (by first | exact .inl rfl | exact .inr rfl | assumption)) (@pgs_cons _ _ _ _ _ (@pg_name _ _ 2 _ sc_is_field.nd rfl (Or.inl rfl) (by first | exact .inl rfl | exact .inr rfl | assumption)) (@pgs_cons _ _ _ _ _ (@pg_name _ _ 3 _ sc_is_field.nd rfl (Or.inl rfl) (by first | exact .inl rfl | exact .inr rfl | assumption)) pgs_nil (by rfl)) (by rfl)) (by rfl)) (by rfl) (by rfl)) (by rfl) (by rfl) (by rfl)) (@pss_cons _ _ _ _ _ (@ps_if _ _ _ _ _ _ _ _ (@pt_not _ _ _ _ (@PW.pt _ _ _ (@pw_and _ _ _ _ _ _ _ (@pt_chain _ _ _ _ _ _ _ _ _ _ _ _ op_le op_le pe_int (pv 1) (@pe_glob _ _ _ _ _ rfl m_MOST_THINGS (RelV_int _ _) (by decide)) (by with_unfolding_all rfl)) (@pw_and _ _ _ _ _ _ _ (@pt_chain _ _ _ _ _ _ _ _ _ _ _ _ op_le op_le pe_int (pv 2) (@pe_glob _ _ _ _ _ rfl m_MOST_THINGS (RelV_int _ _) (by decide)) (by with_unfolding_all rfl)) (@pw_and1 _ _ _ _ (@pt_val _ _ _ (@pe_callH _ _ _ _ _ _ _ _ _ _ _ h_is_prime hr (by decide) rfl (@pa_cons _ _ _ _ _ (pv 1) pa_nil (by rfl)) (by decide) (by rfl) (by rfl)) (by intro _; rfl))))))) (@pss_one _ _ _ (@ps_ret _ _ _ _ pe_bl)) pss_nil) (@pss_cons _ _ _ _ _ (@ps_set _ _ 4 _ _ _ _ sc_is_field.nd rfl (Or.inl rfl) (@pe_callH _ _ _ _ _ _ _ _ _ _ _ h_many_things hr (by decide) rfl (@pa_cons _ _ _ _ _ (pv 0) pa_nil (by rfl)) (by decide) (by rfl) (by rfl)) (by rfl) (by first | exact .inl rfl | exact .inr rfl | assumption)) (@pss_cons _ _ _ _ _ (@ps_if _ _ _ _ _ _ _ _ (@PW.pt _ _ _ (@pw_or _ _ _ _ _ _ _ (@pt_cmpR _ _ _ _ _ _ _ _ op_gt (pv 4) (@pe_glob _ _ _ _ _ rfl m_MOST_THINGS (RelV_int _ _) (by decide)) (nomark _)) (@pw_or1 _ _ _ _ (@pt_not _ _ _ _ (@pt_chain _ _ _ _ _ _ _ _ _ _ _ _ op_le op_lt pe_int (pv 3) (pv 4) (by with_unfolding_all rfl)))))) (@pss_one _ _ _ (@ps_ret _ _ _ _ pe_bl)) pss_nil) (@pss_one _ _ _ (@ps_ret _ _ _ _ (@pe_callH _ _ _ _ _ _ _ _ _ _ _ h_all_come_to_one hr (by decide) rfl (@pa_cons _ _ _ _ _ (pv 0) pa_nil (by rfl)) (by decide) (by rfl) (by rfl))))))))), ?_⟩
  rcases hx with ⟨T, hk, hT, rfl⟩ | ⟨a, xs, rfl, ha, hl, hkd, rfl⟩
  · refine ⟨_, rfl, x, 3, false, rfl, .inl ⟨T, hk, hT, rfl⟩, fun H1 s1 => ?_⟩
    refine ⟨false, rfl, ?_⟩
    exact ite2 (fun _ => q _ s1) (fun c => absurd rfl c)
  refine ⟨_, rfl, .ref a, 3, _, rfl, .inr ⟨a, xs, rfl, ha, hl, hkd, rfl⟩, fun H1 s1 => ?_⟩
  refine ⟨_, rfl, ?_⟩
  cases e : (decide (xs.length = 3) && xs.all isI) with
  | false =>
    rw [fB_no e] at q
    exact ite2 (fun _ => q _ s1) (fun c => absurd (show (!(decide (xs.length = 3) && xs.all isI)) = true by rw [e]; rfl) c)
  | true =>
    refine ite2 (fun c => absurd (show (!(decide (xs.length = 3) && xs.all isI)) = true from c) (by rw [e]; decide)) (fun _ => ?_)
    obtain ⟨i, j, k, rfl⟩ := fB_yes e
    have q := q _ s1
    dsimp only [tNext]
    have hF1 := Same.tup s1 ha
    have no : (∀ p m t : Nat, i = p → j = m → k = t → ¬ Good p m t) → Q (.bl false) H1 := fun h => by rw [fB_f h] at q; exact q
    refine ⟨_, rfl, a, _, rfl, hF1, rfl, _, _, rfl, _, _, rfl, _, _, rfl, rfl, ?_⟩
    refine ⟨_, rfl, _, _, rfl, rfl, decide ((2 : Int) ≤ i), rfl, ?_⟩
    refine ite2 (fun c1 => ?_) (fun c1 => ?_)
    case' refine_2 =>
      refine ⟨false, rfl, ?_⟩
      refine ite2 (fun c => absurd c (by decide)) (fun _ => ?_)
      refine ite2 (fun _ => ?_) (fun c => absurd rfl c)
      exact no fun p m t e1 e2 e3 G => c1 (decide_eq_true (by have := G.hp; lia))
    have c1 := of_decide_eq_true c1
    obtain ⟨p, rfl⟩ := Int.eq_ofNat_of_zero_le (show 0 ≤ i by lia)
    refine ⟨_, _, rfl, rfl, decide ((p : Int) ≤ 64), rfl, ?_⟩
    refine ite2 (fun c2 => ?_) (fun c2 => ?_)
    case' refine_2 =>
      refine ite2 (fun _ => ?_) (fun c => absurd rfl c)
      refine no fun p' m t e1 e2 e3 G => c2 (decide_eq_true ?_)
      have := p_le G.hp G.hm G.hq
      lia
    have c2 := of_decide_eq_true c2
    refine ⟨_, rfl, _, _, rfl, rfl, decide ((1 : Int) ≤ j), rfl, ?_⟩
    refine ite2 (fun c3 => ?_) (fun c3 => ?_)
    case' refine_2 =>
      refine ⟨false, rfl, ?_⟩
      refine ite2 (fun c => absurd c (by decide)) (fun _ => ?_)
      refine ite2 (fun _ => ?_) (fun c => absurd rfl c)
      exact no fun p m t e1 e2 e3 G => c3 (decide_eq_true (by have := G.hm; lia))
    have c3 := of_decide_eq_true c3
    obtain ⟨m, rfl⟩ := Int.eq_ofNat_of_zero_le (show 0 ≤ j by lia)
    refine ⟨_, _, rfl, rfl, decide ((m : Int) ≤ 64), rfl, ?_⟩
    refine ite2 (fun c4 => ?_) (fun c4 => ?_)
    case' refine_2 =>
      refine ite2 (fun _ => ?_) (fun c => absurd rfl c)
      refine no fun p' m' t e1 e2 e3 G => c4 (decide_eq_true ?_)
      have := m_le G.hp G.hq
      lia
    have c4 := of_decide_eq_true c4
    refine ⟨_, rfl, p, rfl, by lia, by lia, _, rfl, ?_⟩
    refine ite2 (fun c5 => ?_) (fun c5 => ?_)
    · refine no fun p' m' t e1 e2 e3 G => ?_
      cases Int.ofNat.inj e1
      have : prB p = true := List.all_eq_true.mpr fun i hi => decide_eq_true (by have := mem_prime G.mem (low := 2 + i) (by lia) (by have := List.mem_range.mp hi; lia); lia)
      rw [this] at c5
      exact absurd c5 (by decide)
    have c5 : prB p = true := by cases h : prB p with | true => rfl | false => exact absurd (by rw [h]; rfl) c5
    dsimp only [tNext]
    refine ⟨_, rfl, a, p, m, _, rfl, hF1, by lia, by lia, ?_⟩
    dsimp only [gName]
    refine ⟨_, rfl, _, _, rfl, rfl, decide ((64 : Int) < ((p ^ m : Nat) : Int)), rfl, ?_⟩
    refine ite2 (fun c6 => ?_) (fun c6 => ?_)
    · refine no fun p' m' t e1 e2 e3 G => ?_
      cases Int.ofNat.inj e1; cases Int.ofNat.inj e2
      have := of_decide_eq_true c6
      have := G.hq
      lia
    have c6 : p ^ m ≤ 64 := by
      rcases Nat.lt_or_ge 64 (p ^ m) with h | h
      · exact absurd (decide_eq_true (by lia)) c6
      · exact h
    refine ⟨_, rfl, _, _, rfl, rfl, decide ((0 : Int) ≤ k), rfl, ?_⟩
    refine ite2 (fun c7 => ?_) (fun c7 => ?_)
    case' refine_2 =>
      refine ⟨false, rfl, ?_⟩
      refine ite2 (fun _ => ?_) (fun c => absurd rfl c)
      exact no fun p m t e1 e2 e3 G => c7 (decide_eq_true (by lia))
    have c7 := of_decide_eq_true c7
    obtain ⟨t, rfl⟩ := Int.eq_ofNat_of_zero_le (show 0 ≤ k by lia)
    refine ⟨_, rfl, _, _, rfl, rfl, decide ((t : Int) < ((p ^ m : Nat) : Int)), rfl, ?_⟩
    refine ite2 (fun c8 => ?_) (fun c8 => ?_)
    · refine no fun p' m' t' e1 e2 e3 G => ?_
      cases Int.ofNat.inj e1; cases Int.ofNat.inj e2; cases Int.ofNat.inj e3
      have := G.top
      rw [decide_eq_true (by lia)] at c8
      exact absurd c8 (by decide)
    have c8 : t < p ^ m := by
      rcases Nat.lt_or_ge t (p ^ m) with h | h
      · exact h
      · exact absurd (by rw [decide_eq_false (by lia)]; rfl) c8
    dsimp only [tNext]
    have R : Rg p m t := ⟨by lia, by lia, c6, c8⟩
    have m6 := m_le R.hp c6
    have mem : (p, m) ∈ menu := by
      have := pr_mem (i := p - 2) (j := m - 1) (by lia) (by lia) (by rw [show 2 + (p - 2) = p by lia]; exact c5) (by rw [show 2 + (p - 2) = p by lia, show 1 + (m - 1) = m by lia]; lia)
      rwa [show 2 + (p - 2) = p by lia, show 1 + (m - 1) = m by lia] at this
    refine ⟨_, rfl, a, p, m, t, rfl, hF1, R, ?_⟩
    rw [fB_b (good_one mem c8)] at q
    exact q
end
end My

end
section
-- text: Q01c
set_option Elab.async false
set_option linter.all false
set_option maxRecDepth 100000
set_option maxHeartbeats 4000000
namespace My
open PySem L2 Dg
section
variable {P : Program} {w : World} {K : PySem.W.Frag} {mg : Str → Option Value} {base : Heap} {f : Addr} {fd : FuncData}
theorem goodL {k : Nat} {x : Str} {ps : List Str} (h : Has P w K mg base k x ps (sp_goodI K)) : Has P w K mg base k x ps (sp_good K) := by
  obtain ⟨f, fd, F, B, kp, m⟩ := h
  refine ⟨f, fd, F.imp fun vs H Q E h => ?_, B, kp, m⟩
  obtain ⟨a, p, m, t, e, h1, h2, h3, h4, h5, q⟩ := h
  exact ⟨a, p, m, t, e, h1, h2, h3, h4, h5, fun b H' s hb => q b H' s hb.mp⟩
theorem sc__law_is_whole : FnScope ["_law_thing"] ["_law_thing"] (defScope s__law_is_whole) := ⟨rfl, rfl, rfl, by decide +kernel, rfl, by decide +kernel, by decide +kernel⟩
theorem ok_lisw (B : Bl mg) (F : Fun K "_law_is_whole" "_law_is_whole" s__law_is_whole f fd) : FnOk P w K mg base CX0 1 f fd ["_law_thing"] (sp_isw K) := by
  refine F.ok sc__law_is_whole (fun vs H Q E h => ?_) (fun cdv A outer s H vs Q E hr h => ?_)
  · obtain ⟨x, T, rfl, _⟩ := h; rfl
  obtain ⟨x, T, rfl, hk, q⟩ := h
  refine ⟨_, (@pss_one _ _ _ (@ps_ret _ _ _ _ (@pe_and _ _ _ _ _ _ _ (@pe_callB _ _ _ _ _ _ _ _ _ isiD_int rfl (B "isinstance" (by decide)) PyProof.Rows.boot_isinstance (@pa_cons _ _ _ _ _ (pv 0) (@pa_cons _ _ _ _ _ (@pe_bltn _ _ _ _ _ rfl (B "int" (by decide)) boot_ty_int (id (α := RelV (.ty "int") (.type "int")) rfl) (by decide) (by decide)) pa_nil (by rfl)) (by rfl)) (by decide) (by decide) (by rfl) (by rfl)) (@pe_one _ _ _ _ _ (@pe_not _ _ _ _ (@pe_callB _ _ _ _ _ _ _ _ _ isiD_bool rfl (B "isinstance" (by decide)) PyProof.Rows.boot_isinstance (@pa_cons _ _ _ _ _ (pv 0) (@pa_cons _ _ _ _ _ (@pe_bltn _ _ _ _ _ rfl (B "bool" (by decide)) boot_ty_bool (id (α := RelV (.ty "bool") (.type "bool")) rfl) (by decide) (by decide)) pa_nil (by rfl)) (by rfl)) (by decide) (by decide) (by rfl) (by rfl))))))), ?_⟩
  refine ⟨_, rfl, x, T, rfl, hk, _, rfl, ?_⟩
  refine ite2 (fun c => ?_) (fun c => ?_)
  · refine ⟨_, rfl, x, T, rfl, hk, _, rfl, ?_⟩
    have e : (!subK T "bool") = (T == "int") := by
      by_cases h : T = "int"
      · subst h; decide
      · have h2 : T = "bool" := by
          unfold subK at c
          simp [h] at c
          exact c
        subst h2; decide
    rw [e]; exact q
  · have e : (T == "int") = false := by
      cases h : (T == "int") with
      | false => rfl
      | true => exact absurd (by unfold subK; rw [h]; rfl) c
    rw [e] at q; exact q
theorem sc__law_due : FnScope ["_law_thing", "_law_p", "_law_m", "_law_top"] ["_law_thing"] (defScope s__law_due) := ⟨rfl, rfl, rfl, by decide +kernel, rfl, by decide +kernel, by decide +kernel⟩
theorem ok_ldueF (B : Bl mg) (h__law_is_whole : Has P w K mg base 1 "_law_is_whole" ["_law_thing"] (sp_isw K)) (h__law_raised : Has P w K mg base 1 "_law_raised" ["_law_one", "_law_many"] sp_number_power) (h__law_is_good : Has P w K mg base 3 "_law_is_good" ["_law_field_here"] (sp_goodI K)) (F : Fun K "_law_due" "_law_due" s__law_due f fd) : FnOk P w K mg base CX0 4 f fd ["_law_thing"] (sp_isfieldA K) := by
  refine F.ok sc__law_due (fun vs H Q E h => ?_) (fun cdv A outer s H vs Q E hr h => ?_)
  · obtain ⟨x, b, rfl, _⟩ := h; rfl
  obtain ⟨x, b, rfl, hx, q⟩ := h
  refine ⟨_, (@pss_cons _ _ _ _ _ (@ps_if _ _ _ _ _ _ _ _ (@PW.pt _ _ _ (@pw_or _ _ _ _ _ _ _ (@pt_not _ _ _ _ (@pt_val _ _ _ (@pe_callB _ _ _ _ _ _ _ _ _ isiD_tuple rfl (B "isinstance" (by decide)) PyProof.Rows.boot_isinstance (@pa_cons _ _ _ _ _ (pv 0) (@pa_cons _ _ _ _ _ (@pe_bltn _ _ _ _ _ rfl (B "tuple" (by decide)) boot_ty_tuple (id (α := RelV (.ty "tuple") (.type "tuple")) rfl) (by decide) (by decide)) pa_nil (by rfl)) (by rfl)) (by decide) (by decide) (by rfl) (by rfl)) (by intro _; rfl))) (@pw_or _ _ _ _ _ _ _ (@pt_cmpR _ _ _ _ _ _ _ _ op_ne (@pe_callB _ _ _ _ _ _ _ _ _ call_len_seq rfl (B "len" (by decide)) PySem.boot_len (@pa_cons _ _ _ _ _ (pv 0) pa_nil (by rfl)) (by decide) (by decide) (by rfl) (by rfl)) pe_int (nomark _)) (@pw_or1 _ _ _ _ (@pt_not _ _ _ _ (@pt_val _ _ _ (@pe_callB _ _ _ _ _ _ _ _ _ (call_all rfl) rfl (B "all" (by decide)) PyProof.Rows.boot_all (@pa_cons _ _ _ _ _ (@pe_lcomp _ _ _ _ _ _ _ ["_law_one"] [] [] _ _ _ _ (id (α := CSc ["_law_thing", "_law_p", "_law_m", "_law_top"] (defScope s__law_due) ["_law_one"] [] [] _) ⟨by rfl, by decide +kernel, by decide +kernel, by decide +kernel, by decide +kernel, by rfl, by decide +kernel⟩) rfl (@pi_tup _ _ _ _ (pv 0)) (fun cl C fp s H => (@pg_name _ _ 0 _ (by show List.Nodup (["_law_one"] : List Str); decide +kernel) rfl (Or.inl rfl) (by first | exact .inl rfl | exact .inr rfl | assumption))) (fun _ _ _ _ _ => pifs_nil) (fun _ _ _ _ _ => (@pe_callH _ _ _ _ _ _ _ _ _ _ _ h__law_is_whole hr (by decide) rfl (@pa_cons _ _ _ _ _ (pv 0) pa_nil (by rfl)) (by decide) (by rfl) (by rfl))) (by intro _; rfl)) pa_nil (by rfl)) (by decide) (by decide) (by rfl) (by rfl)) (by intro _; rfl))))))) (@pss_one _ _ _ (@ps_ret _ _ _ _ pe_bl)) pss_nil) (@pss_cons _ _ _ _ _ (@ps_asg _ _ _ _ _ _ (pv 0) (@pg_tup _ _ _ _ _ _ rfl (@pgs_cons _ _ _ _ _ (@pg_name _ _ 1 _ sc__law_due.nd rfl (Or.inr rfl) (by first | exact .inl rfl | exact .inr rfl | assumption)) (@pgs_cons _ _ _ _ _ (@pg_name _ _ 2 _ sc__law_due.nd rfl (Or.inl rfl) (by first | exact .inl rfl | exact .inr rfl | assumption)) (@pgs_cons _ _ _ _ _ (@pg_name _ _ 3 _ sc__law_due.nd rfl (Or.inl rfl) (by first | exact .inl rfl | exact .inr rfl | assumption)) pgs_nil (by rfl)) (by rfl)) (by rfl)) (by rfl) (by rfl)) (by rfl) (by rfl) (by rfl)) (@pss_cons _ _ _ _ _ (@ps_if _ _ _ _ _ _ _ _ (@PW.pt _ _ _ (@pw_or _ _ _ _ _ _ _ (@pt_not _ _ _ _ (@pt_chain _ _ _ _ _ _ _ _ _ _ _ _ op_lt op_lt pe_int (pv 1) pe_int (by with_unfolding_all rfl))) (@pw_or _ _ _ _ _ _ _ (@pt_cmpR _ _ _ _ _ _ _ _ op_lt (pv 2) pe_int (nomark _)) (@pw_or _ _ _ _ _ _ _ (@pt_cmpR _ _ _ _ _ _ _ _ op_gt (pv 2) pe_int (nomark _)) (@pw_or1 _ _ _ _ (@pt_not _ _ _ _ (@pt_val _ _ _ (@pe_callB _ _ _ _ _ _ _ _ _ (call_all rfl) rfl (B "all" (by decide)) PyProof.Rows.boot_all (@pa_cons _ _ _ _ _ (@pe_lcomp _ _ _ _ _ _ _ ["_law_part"] ["_law_p"] [1] _ _ _ _ (id (α := CSc ["_law_thing", "_law_p", "_law_m", "_law_top"] (defScope s__law_due) ["_law_part"] ["_law_p"] [1] _) ⟨by rfl, by decide +kernel, by decide +kernel, by decide +kernel, by decide +kernel, by rfl, by decide +kernel⟩) rfl (@pi_range2 _ _ _ _ _ _ _ rfl (B "range" (by decide)) (@pa_cons _ _ _ _ _ pe_int (@pa_cons _ _ _ _ _ (pv 1) pa_nil (by rfl)) (by rfl)) (by rfl) (by rfl)) (fun cl C fp s H => (@pg_name _ _ 0 _ (by show List.Nodup (["_law_part", "_law_p"] : List Str); decide +kernel) rfl (Or.inl rfl) (by first | exact .inl rfl | exact .inr rfl | assumption))) (fun _ _ _ _ _ => pifs_nil) (fun _ _ _ _ _ => (@pe_cmpR _ _ _ _ _ _ _ _ op_gt (@pe_op _ _ _ _ _ _ _ _ op_mod (pv 1) (pv 0)) pe_int (nomark _))) (by intro _; rfl)) pa_nil (by rfl)) (by decide) (by decide) (by rfl) (by rfl)) (by intro _; rfl)))))))) (@pss_one _ _ _ (@ps_ret _ _ _ _ pe_bl)) pss_nil) (@pss_one _ _ _ (@ps_ret _ _ _ _ (@pe_and _ _ _ _ _ _ _ (@pe_cmpR _ _ _ _ _ _ _ _ op_lt (@pe_callH _ _ _ _ _ _ _ _ _ _ _ h__law_raised hr (by decide) rfl (@pa_cons _ _ _ _ _ (pv 1) (@pa_cons _ _ _ _ _ (pv 2) pa_nil (by rfl)) (by rfl)) (by decide) (by rfl) (by rfl)) pe_int (nomark _)) (@pe_and _ _ _ _ _ _ _ (@pe_chain _ _ _ _ _ _ _ _ _ _ _ _ op_le op_lt pe_int (pv 3) (@pe_callH _ _ _ _ _ _ _ _ _ _ _ h__law_raised hr (by decide) rfl (@pa_cons _ _ _ _ _ (pv 1) (@pa_cons _ _ _ _ _ (pv 2) pa_nil (by rfl)) (by rfl)) (by decide) (by rfl) (by rfl)) (by with_unfolding_all rfl)) (@pe_one _ _ _ _ _ (@pe_callH _ _ _ _ _ _ _ _ _ _ _ h__law_is_good hr (by decide) rfl (@pa_cons _ _ _ _ _ (pv 0) pa_nil (by rfl)) (by decide) (by rfl) (by rfl)))))))))), ?_⟩
  rcases hx with ⟨T, hk, hT, rfl⟩ | ⟨a, xs, rfl, ha, hl, hkd, rfl⟩
  · refine ⟨_, rfl, x, T, rfl, hk, _, rfl, ?_⟩
    have e : subK T "tuple" = false := by unfold subK; simp [hT]
    rw [e]
    refine ite2 (fun _ => ?_) (fun c => absurd rfl c)
    refine ite2 (fun _ => ?_) (fun c => absurd rfl c)
    exact q _ (Same.refl _)
  refine ⟨_, rfl, .ref a, "tuple", rfl, .inl (.inr ⟨rfl, xs, ha⟩), _, rfl, ?_⟩
  refine ite2 (fun c => absurd c (by decide)) (fun _ => ?_)
  refine ⟨_, rfl, a, xs, rfl, .inr ha, ?_⟩
  have ed : decide (V.int (xs.length : Int) = V.int 3) = decide (xs.length = 3) := decide_eq_decide.mpr ⟨fun e => by injection e with e; omega, fun e => by rw [e]; rfl⟩
  refine ⟨rfl, _, rfl, ?_⟩
  rw [ed]
  by_cases hc : xs.length = 3
  case neg =>
    rw [decide_eq_false hc]
    refine ite2 (fun _ => ?_) (fun c => absurd rfl c)
    refine ite2 (fun _ => ?_) (fun c => absurd rfl c)
    rw [fB_no (by rw [decide_eq_false hc]; rfl)] at q
    exact q _ (Same.refl _)
  rw [decide_eq_true hc]
  refine ite2 (fun c => absurd c (by decide)) (fun _ => ?_)
  refine ⟨_, rfl, a, rfl, ⟨_, ha⟩, ?_⟩
  refine comp_any (seqs_tup (xs := xs)) (fun i acc H' => H' = H ∧ acc = (xs.take i).map fun e => V.bl (isI e)) ⟨rfl, rfl⟩ (fun i acc H' _ h => by rw [h.1]; exact ha) ?_ ?_ ?_
  · rintro i acc H' hi ⟨_, rfl⟩
    rw [List.length_map, List.length_take]; exact small1000 (by omega)
  · rintro i acc z H2 H2' hi ⟨rfl, rfl⟩ ⟨rfl, ez⟩
    obtain ⟨T, hk⟩ := hkd z (List.mem_of_getElem? ez)
    refine ⟨_, rfl, z, T, rfl, hk, rfl, ?_⟩
    rw [take_more ez, List.map_append, kind_isI hk]; rfl
  rintro acc H2 ⟨rfl, rfl⟩ D hD
  rw [List.take_length]
  have s1 := same_new hD (.lst (xs.map fun e => V.bl (isI e)))
  have hF1 := Same.tup s1 ha
  refine ⟨D, xs.map isI, rfl, SqL.of (by rw [upd_same, List.map_map]; rfl), _, rfl, ?_⟩
  have e : (xs.map isI).all id = xs.all isI := by rw [List.all_map]; rfl
  dsimp only
  rw [e]
  cases ex : xs.all isI with
  | false =>
    rw [fB_no (by rw [ex, Bool.and_false])] at q
    refine ite2 (fun _ => ?_) (fun c => absurd rfl c)
    exact q _ s1
  | true =>
    refine ite2 (fun c => absurd c (by decide)) (fun _ => ?_)
    obtain ⟨i, j, k, rfl⟩ := fB_yes (xs := xs) (by rw [decide_eq_true hc, ex]; rfl)
    have q := fun {H'} s2 => q H' (s1.trans s2)
    dsimp only [tNext]
    change tSeq _ _ _ _ (upd H2 D (.lst ([V.int i, V.int j, V.int k].map fun e => V.bl (isI e))))
    generalize upd H2 D (.lst ([V.int i, V.int j, V.int k].map fun e => V.bl (isI e))) = H1 at *
    have no : (∀ p m t : Nat, i = p → j = m → k = t → ¬ Good p m t) → ∀ H', Same H1 H' → Q (.bl false) H' := fun h H' s2 => by have q := q s2; rw [fB_f h] at q; exact q
    refine ⟨_, rfl, a, _, rfl, hF1, rfl, _, _, rfl, _, _, rfl, _, _, rfl, rfl, ?_⟩
    refine ⟨_, rfl, _, _, rfl, rfl, decide ((1 : Int) < i), rfl, ?_⟩
    refine ite2 (fun c1 => ?_) (fun c1 => ?_)
    case' refine_2 =>
      refine ⟨false, rfl, ?_⟩
      refine ite2 (fun _ => ?_) (fun c => absurd rfl c)
      refine ite2 (fun _ => ?_) (fun c => absurd rfl c)
      exact no (fun p m t e1 e2 e3 G => c1 (decide_eq_true (by have := G.hp; lia))) _ (Same.refl _)
    have c1 := of_decide_eq_true c1
    obtain ⟨p, rfl⟩ := Int.eq_ofNat_of_zero_le (show 0 ≤ i by lia)
    refine ⟨_, _, rfl, rfl, decide ((p : Int) < 65), rfl, ?_⟩
    refine ite2 (fun c2 => ?_) (fun c2 => ?_)
    · refine ite2 (fun _ => ?_) (fun c => absurd rfl c)
      refine no (fun p' m t e1 e2 e3 G => ?_) _ (Same.refl _)
      have := p_le G.hp G.hm G.hq
      rw [decide_eq_true (show (p : Int) < 65 by lia)] at c2
      exact absurd c2 (by decide)
    have c2 : (p : Int) < 65 := Classical.byContradiction fun e => c2 (by rw [decide_eq_false e]; rfl)
    refine ⟨_, rfl, _, _, rfl, rfl, decide (j < 1), rfl, ?_⟩
    refine ite2 (fun c3 => ?_) (fun c3 => ?_)
    · refine ite2 (fun _ => ?_) (fun c => absurd rfl c)
      exact no (fun p m t e1 e2 e3 G => by have := of_decide_eq_true c3; have := G.hm; lia) _ (Same.refl _)
    have c3 : ¬ j < 1 := fun e => c3 (decide_eq_true e)
    obtain ⟨m, rfl⟩ := Int.eq_ofNat_of_zero_le (show 0 ≤ j by lia)
    refine ⟨_, rfl, _, _, rfl, rfl, decide ((6 : Int) < m), rfl, ?_⟩
    refine ite2 (fun c4 => ?_) (fun c4 => ?_)
    · refine ite2 (fun _ => ?_) (fun c => absurd rfl c)
      refine no (fun p' m' t e1 e2 e3 G => ?_) _ (Same.refl _)
      have := of_decide_eq_true c4
      have := m_le G.hp G.hq
      lia
    have c4 : ¬ (6 : Int) < m := fun e => c4 (decide_eq_true e)
    refine ⟨_, rfl, 2, ((p : Nat) : Int), rfl, by lia, ?_⟩
    refine comp_any seqs_range (fun l acc H' => H' = H1 ∧ acc = ((List.range l).map fun l => decide (0 < p % (2 + l))).map V.bl) ⟨rfl, rfl⟩ (fun _ _ _ _ _ => trivial) ?_ ?_ ?_
    · rintro l acc H' hl ⟨_, rfl⟩
      rw [List.length_map, List.length_map, List.length_range]; exact small1000 (by omega)
    · rintro l acc x Hx Hy hl ⟨rfl, rfl⟩ ⟨rfl, rfl⟩
      rw [show V.int (2 + (l : Int)) = Vn (2 + l) from ints_eq (by omega)]
      refine ⟨_, rfl, _, rfl, _, _, rfl, rfl, by show (0 : Int) < ((2 + l : Nat) : Int); omega, _, _, rfl, rfl, rfl, ?_⟩
      rw [List.range_succ, List.map_append, List.map_append]
      refine congrArg (_ ++ [V.bl ·]) ?_
      show decide (((p : Nat) : Int) % ((2 + l : Nat) : Int) > 0) = decide (0 < p % (2 + l))
      rw [← Int.natCast_emod]
      exact decide_eq_decide.mpr (by omega)
    have hr : (((p : Nat) : Int) - 2).toNat = p - 2 := by omega
    rw [hr]
    rintro acc Hx ⟨rfl, rfl⟩ D2 hD2
    have s2 := same_new hD2 (.lst (((List.range (p - 2)).map fun j => decide (0 < p % (2 + j))).map V.bl))
    have hF2 := Same.tup s2 hF1
    refine ⟨D2, _, rfl, SqL.of upd_same, prB p, by show V.bl (List.all _ id) = _; rw [List.all_map, prB]; rfl, ?_⟩
    generalize upd Hx D2 _ = H3 at *
    refine ite2 (fun c5 => ?_) (fun c5 => ?_)
    · refine no (fun p' m' t e1 e2 e3 G => ?_) _ s2
      cases Int.ofNat.inj e1
      have : prB p = true := List.all_eq_true.mpr fun i hi => decide_eq_true (by have := mem_prime G.mem (low := 2 + i) (by lia) (by have := List.mem_range.mp hi; lia); lia)
      rw [this] at c5
      exact absurd c5 (by decide)
    have c5 : prB p = true := by cases h : prB p with | true => rfl | false => exact absurd (by rw [h]; rfl) c5
    dsimp only [tNext]
    refine ⟨_, rfl, _, rfl, p, m, rfl, by lia, by lia, ?_⟩
    refine ⟨_, _, rfl, rfl, decide (((p ^ m : Nat) : Int) < 65), rfl, ?_⟩
    refine ite2 (fun c6 => ?_) (fun c6 => ?_)
    case' refine_2 =>
      refine no (fun p' m' t e1 e2 e3 G => c6 (decide_eq_true ?_)) _ s2
      cases Int.ofNat.inj e1; cases Int.ofNat.inj e2
      have := G.hq
      lia
    have c6 := of_decide_eq_true c6
    refine ⟨_, rfl, _, _, rfl, rfl, decide ((0 : Int) ≤ k), rfl, ?_⟩
    refine ite2 (fun c7 => ?_) (fun c7 => ?_)
    case' refine_2 =>
      refine ⟨false, rfl, ?_⟩
      exact no (fun p m t e1 e2 e3 G => c7 (decide_eq_true (by lia))) _ s2
    have c7 := of_decide_eq_true c7
    obtain ⟨t, rfl⟩ := Int.eq_ofNat_of_zero_le (show 0 ≤ k by lia)
    refine ⟨_, rfl, _, rfl, p, m, rfl, by lia, by lia, ?_⟩
    refine ⟨_, _, rfl, rfl, decide ((t : Int) < ((p ^ m : Nat) : Int)), rfl, ?_⟩
    refine ite2 (fun c8 => ?_) (fun c8 => ?_)
    case' refine_2 =>
      refine no (fun p' m' t' e1 e2 e3 G => c8 (decide_eq_true ?_)) _ s2
      cases Int.ofNat.inj e1; cases Int.ofNat.inj e2; cases Int.ofNat.inj e3
      have := G.top
      lia
    have c8 := of_decide_eq_true c8
    have R : Rg p m t := ⟨by lia, by lia, by lia, by lia⟩
    have mem : (p, m) ∈ menu := by
      have := pr_mem (i := p - 2) (j := m - 1) (by lia) (by lia) (by rw [show 2 + (p - 2) = p by lia]; exact c5) (by rw [show 2 + (p - 2) = p by lia, show 1 + (m - 1) = m by lia]; lia)
      rwa [show 2 + (p - 2) = p by lia, show 1 + (m - 1) = m by lia] at this
    refine ⟨_, rfl, a, p, m, t, rfl, hF2, by lia, by lia, by lia, by lia, fun b H4 s4 hb => ?_⟩
    have q := q (s2.trans s4)
    rw [fB_b (b := b) (hb.trans ⟨fun h => ⟨mem, by lia, .inr h⟩, fun G x y h1 h2 h3 h4 h5 => Nat.ne_of_gt (G.noz h1 h2 h4 h5)⟩)] at q
    exact q
end
end My

end
section
-- text: Q01d
set_option Elab.async false
set_option linter.all false
set_option maxRecDepth 100000
set_option maxHeartbeats 4000000
namespace My
open PySem L2 Dg
theorem noPart {σ : St} {H : Hp} {Q : Option Int → Hp → Prop} (h : Q none H) : tNoPart σ H Q := h
section
variable {P : Program} {w : World} {K : PySem.W.Frag} {mg : Str → Option Value} {base : Heap} {f : Addr} {fd : FuncData}
noncomputable def sp_otherF (K : PySem.W.Frag) : Sp := fun vs H Q _ => ∃ (pu g a : Addr) (p m t : Nat), vs = [.ref pu, .ref a] ∧ Pu H pu g ∧ H a = some (.tup [Vn p, Vn m, Vn t]) ∧ (a ≠ pu ∧ a ≠ g) ∧ p < 100 ∧ m < 100 ∧ t < 100 ∧ ∀ (v : V) H', ThX K H' pu g v → Pu H' pu g → SameX pu g H H' → Q v H'
theorem sc__law_otherwise : FnScope ["_law_purse_here", "_law_field_here", "_law_way", "_law_at", "_law_far", "_law_one", "_law_other", "_law_some", "_law_odd"] ["_law_purse_here", "_law_field_here"] (defScope s__law_otherwise) := ⟨rfl, rfl, rfl, by decide +kernel, rfl, by decide +kernel, by decide +kernel⟩
theorem ok_otherF (B : Bl mg) (h__law_pick : Has P w K mg base 1 "_law_pick" ["_law_purse_here", "_law_many"] sp_pick) (F : Fun K "_law_otherwise" "_law_otherwise" s__law_otherwise f fd) : FnOk P w K mg base CX0 2 f fd ["_law_purse_here", "_law_field_here"] (sp_otherF K) := by
  refine F.ok sc__law_otherwise (fun vs H Q E h => ?_) (fun cdv A outer s H vs Q E hr h => ?_)
  · obtain ⟨pu, g, a, p, m, t, rfl, _⟩ := h; rfl
  obtain ⟨pu, g, a, p, m, t, rfl, hP, ha, na, hp, hm, ht, q⟩ := h
  refine ⟨_, (@pss_cons _ _ _ _ _ (@ps_par _ _ 2 3 _ _ _ _ _ _ _ _ _ _ _ rfl sc__law_otherwise.nd rfl rfl (by decide) rfl rfl (@pa_cons _ _ _ _ _ (@pe_callH _ _ _ _ _ _ _ _ _ _ _ h__law_pick hr (by decide) rfl (@pa_cons _ _ _ _ _ (pv 0) (@pa_cons _ _ _ _ _ pe_int pa_nil (by rfl)) (by rfl)) (by decide) (by rfl) (by rfl)) (@pa_cons _ _ _ _ _ (@pe_callH _ _ _ _ _ _ _ _ _ _ _ h__law_pick hr (by decide) rfl (@pa_cons _ _ _ _ _ (pv 0) (@pa_cons _ _ _ _ _ pe_int pa_nil (by rfl)) (by rfl)) (by decide) (by rfl) (by rfl)) pa_nil (by rfl)) (by rfl)) rfl (by rfl)) (@pss_cons _ _ _ _ _ (@ps_par3 _ _ 4 5 6 _ _ _ _ _ _ _ _ _ _ _ _ _ _ rfl sc__law_otherwise.nd rfl rfl rfl (by decide) rfl rfl rfl (@pa_cons _ _ _ _ _ (@pe_callH _ _ _ _ _ _ _ _ _ _ _ h__law_pick hr (by decide) rfl (@pa_cons _ _ _ _ _ (pv 0) (@pa_cons _ _ _ _ _ pe_int pa_nil (by rfl)) (by rfl)) (by decide) (by rfl) (by rfl)) (@pa_cons _ _ _ _ _ (@pe_callH _ _ _ _ _ _ _ _ _ _ _ h__law_pick hr (by decide) rfl (@pa_cons _ _ _ _ _ (pv 0) (@pa_cons _ _ _ _ _ pe_int pa_nil (by rfl)) (by rfl)) (by decide) (by rfl) (by rfl)) (@pa_cons _ _ _ _ _ (@pe_callH _ _ _ _ _ _ _ _ _ _ _ h__law_pick hr (by decide) rfl (@pa_cons _ _ _ _ _ (pv 0) (@pa_cons _ _ _ _ _ pe_int pa_nil (by rfl)) (by rfl)) (by decide) (by rfl) (by rfl)) pa_nil (by rfl)) (by rfl)) (by rfl)) rfl (by rfl)) (@pss_cons _ _ _ _ _ (@ps_set _ _ 7 _ _ _ _ sc__law_otherwise.nd rfl (Or.inl rfl) (@pe_lst _ _ _ _ (@pa_cons _ _ _ _ _ (pv 4) (@pa_cons _ _ _ _ _ (@pe_op _ _ _ _ _ _ _ _ op_sub (@pe_un _ _ _ _ _ _ un_neg pe_int) (pv 4)) (@pa_cons _ _ _ _ _ pe_bl (@pa_cons _ _ _ _ _ pe_bl (@pa_cons _ _ _ _ _ pe_non (@pa_cons _ _ _ _ _ (@pe_callTy _ _ _ _ _ _ _ _ _ (call_str hr.gd hr.units) rfl (B "str" (by decide)) boot_ty_str (@pa_cons _ _ _ _ _ (@pe_ix _ _ _ _ _ _ _ ix_tup (pv 1) (pv 3) (fun _ _ => rfl)) pa_nil (by rfl)) (by decide) (by decide) (by rfl) (by rfl)) (@pa_cons _ _ _ _ _ (@pe_tup _ _ _ _ _ (@pa_cons _ _ _ _ _ (@pe_ix _ _ _ _ _ _ _ ix_tup (pv 1) (pv 3) (fun _ _ => rfl)) pa_nil (by rfl))) (@pa_cons _ _ _ _ _ (@pe_lst _ _ _ _ (@pa_cons _ _ _ _ _ (@pe_ix _ _ _ _ _ _ _ ix_tup (pv 1) (pv 3) (fun _ _ => rfl)) pa_nil (by rfl))) (@pa_cons _ _ _ _ _ (@pe_op _ _ _ _ _ _ _ _ op_add (@pe_ix _ _ _ _ _ _ _ ix_tup (pv 1) (pv 3) (fun _ _ => rfl)) pe_int) (@pa_cons _ _ _ _ _ pe_int (@pa_cons _ _ _ _ _ (@pe_op _ _ _ _ _ _ _ _ op_pow pe_int pe_int) (@pa_cons _ _ _ _ _ pe_int pa_nil (by rfl)) (by rfl)) (by rfl)) (by rfl)) (by rfl)) (by rfl)) (by rfl)) (by rfl)) (by rfl)) (by rfl)) (by rfl)) (by rfl))) (by rfl) (by first | exact .inl rfl | exact .inr rfl | assumption)) (@pss_cons _ _ _ _ _ (@ps_if _ _ _ _ _ _ _ _ (@pt_cmpR _ _ _ _ _ _ _ _ op_lt (pv 2) pe_int (nomark _)) (@pss_one _ _ _ (@ps_ret _ _ _ _ (@pe_op _ _ _ _ _ _ _ _ op_catU (@pe_op _ _ _ _ _ _ _ _ op_catU (@pe_slice _ _ _ _ _ _ _ _ _ _ sl_tupA (pv 1) po_none (@po_some _ _ _ (pv 3))) (@pe_tup _ _ _ _ _ (@pa_cons _ _ _ _ _ (@pe_ix _ _ _ _ _ _ _ ix_list (pv 7) (@pe_callH _ _ _ _ _ _ _ _ _ _ _ h__law_pick hr (by decide) rfl (@pa_cons _ _ _ _ _ (pv 0) (@pa_cons _ _ _ _ _ (@pe_callB _ _ _ _ _ _ _ _ _ call_len_seq rfl (B "len" (by decide)) PySem.boot_len (@pa_cons _ _ _ _ _ (pv 7) pa_nil (by rfl)) (by decide) (by decide) (by rfl) (by rfl)) pa_nil (by rfl)) (by rfl)) (by decide) (by rfl) (by rfl)) (fun _ _ => rfl)) pa_nil (by rfl)))) (@pe_slice _ _ _ _ _ _ _ _ _ _ sl_tupA (pv 1) (@po_some _ _ _ (@pe_op _ _ _ _ _ _ _ _ op_add (pv 3) pe_int)) po_none)))) pss_nil) (@pss_cons _ _ _ _ _ (@ps_if _ _ _ _ _ _ _ _ (@pt_cmpR _ _ _ _ _ _ _ _ op_eq (pv 2) pe_int (nomark _)) (@pss_one _ _ _ (@ps_ret _ _ _ _ (@pe_tup _ _ _ _ _ (@pa_cons _ _ _ _ _ (pv 4) (@pa_cons _ _ _ _ _ (pv 5) (@pa_cons _ _ _ _ _ (pv 6) pa_nil (by rfl)) (by rfl)) (by rfl))))) pss_nil) (@pss_cons _ _ _ _ _ (@ps_if _ _ _ _ _ _ _ _ (@pt_cmpR _ _ _ _ _ _ _ _ op_eq (pv 2) pe_int (nomark _)) (@pss_one _ _ _ (@ps_ret _ _ _ _ (@pe_tup _ _ _ _ _ (@pa_cons _ _ _ _ _ (pv 6) (@pa_cons _ _ _ _ _ (@pe_op _ _ _ _ _ _ _ _ op_add pe_int (@pe_op _ _ _ _ _ _ _ _ op_fdv (pv 5) pe_int)) (@pa_cons _ _ _ _ _ (pv 4) pa_nil (by rfl)) (by rfl)) (by rfl))))) pss_nil) (@pss_cons _ _ _ _ _ (@ps_set _ _ 8 _ _ _ _ sc__law_otherwise.nd rfl (Or.inl rfl) (@pe_lst _ _ _ _ (@pa_cons _ _ _ _ _ (@pe_callTy _ _ _ _ _ _ _ _ _ call_list_of rfl (B "list" (by decide)) boot_ty_list (@pa_cons _ _ _ _ _ (pv 1) pa_nil (by rfl)) (by decide) (by decide) (by rfl) (by rfl)) (@pa_cons _ _ _ _ _ (@pe_op _ _ _ _ _ _ _ _ op_catU (@pe_slice _ _ _ _ _ _ _ _ _ _ sl_tupA (pv 1) po_none (@po_some _ _ _ (pv 3))) (@pe_slice _ _ _ _ _ _ _ _ _ _ sl_tupA (pv 1) (@po_some _ _ _ (@pe_op _ _ _ _ _ _ _ _ op_add (pv 3) pe_int)) po_none)) (@pa_cons _ _ _ _ _ (@pe_op _ _ _ _ _ _ _ _ op_catU (pv 1) (@pe_tup _ _ _ _ _ (@pa_cons _ _ _ _ _ pe_int pa_nil (by rfl)))) (@pa_cons _ _ _ _ _ (@pe_revT _ _ _ _ _ _ _ _ (pv 1)) (@pa_cons _ _ _ _ _ (@pe_tup _ _ _ _ _ pa_nil) (@pa_cons _ _ _ _ _ pe_non (@pa_cons _ _ _ _ _ pe_bl (@pa_cons _ _ _ _ _ pe_str pa_nil (by rfl)) (by rfl)) (by rfl)) (by rfl)) (by rfl)) (by rfl)) (by rfl)) (by rfl))) (by rfl) (by first | exact .inl rfl | exact .inr rfl | assumption)) (@pss_cons _ _ _ _ _ (@ps_set _ _ 8 _ _ _ _ sc__law_otherwise.nd rfl (Or.inl rfl) (@pe_op _ _ _ _ _ _ _ _ op_cat (pv 8) (@pe_lst _ _ _ _ (@pa_cons _ _ _ _ _ pe_dnewK (@pa_cons _ _ _ _ _ (@pe_tup _ _ _ _ _ (@pa_cons _ _ _ _ _ (pv 1) pa_nil (by rfl))) (@pa_cons _ _ _ _ _ pe_int pa_nil (by rfl)) (by rfl)) (by rfl)))) (by rfl) (by first | exact .inl rfl | exact .inr rfl | assumption)) (@pss_one _ _ _ (@ps_ret _ _ _ _ (@pe_ix _ _ _ _ _ _ _ ix_list (pv 8) (@pe_callH _ _ _ _ _ _ _ _ _ _ _ h__law_pick hr (by decide) rfl (@pa_cons _ _ _ _ _ (pv 0) (@pa_cons _ _ _ _ _ (@pe_callB _ _ _ _ _ _ _ _ _ call_len_seq rfl (B "len" (by decide)) PySem.boot_len (@pa_cons _ _ _ _ _ (pv 8) pa_nil (by rfl)) (by decide) (by decide) (by rfl) (by rfl)) pa_nil (by rfl)) (by rfl)) (by decide) (by rfl) (by rfl)) (fun _ _ => rfl)))))))))))), ?_⟩
  have hrow : ∀ y ∈ [p, m, t], y < 100 := fun y hy => by
    simp only [List.mem_cons, List.not_mem_nil, or_false] at hy
    rcases hy with rfl | rfl | rfl <;> assumption
  generalize hr0 : [p, m, t] = row at hrow
  have hl : row.length = 3 := by rw [← hr0]; rfl
  replace ha : H a = some (.tup (row.map Vn)) := by rw [ha, ← hr0]; rfl
  have kr : ∀ {H' : Hp}, ∀ e ∈ row.map Vn, KdX K H' pu g e := fun {H'} => kdx_row row
  refine ⟨_, rfl, pu, g, 6, rfl, hP, by omega, by omega, fun way H1 hway hP1 sx1 => ?_⟩
  refine ⟨_, rfl, pu, g, 3, rfl, hP1, by omega, by omega, fun at_ H2 hat hP2 sx2 => ⟨_, _, rfl, ?_⟩⟩
  refine ⟨_, rfl, pu, g, 70, rfl, hP2, by omega, by omega, fun far H3 hfar hP3 sx3 => ?_⟩
  refine ⟨_, rfl, pu, g, 8, rfl, hP3, by omega, by omega, fun one H4 hone hP4 sx4 => ?_⟩
  refine ⟨_, rfl, pu, g, 66, rfl, hP4, by omega, by omega, fun other H5 hother hP5 sx5 => ⟨_, _, _, rfl, ?_⟩⟩
  have sx : SameX pu g H H5 := sx1.trans (sx2.trans (sx3.trans (sx4.trans sx5)))
  have ha5 := sx _ _ na.1 na.2 ha
  clear sx1 sx2 sx3 sx4 sx5 hP1 hP2 hP3 hP4
  dsimp only [gName]
  have hat' : at_ < row.length := by omega
  refine ⟨_, rfl, 1, rfl, _, rfl, _, _, rfl, rfl, _, rfl, _, rfl, a, _, _, Vn (row.getD at_ 0), rfl, rfl, SqT.of ha5, atI_nat (map_get hat'), _, rfl, .inl ⟨_, rfl, log_small _ (by have := getD_lt hrow hat'; omega)⟩, fun z => ?_⟩
  refine ⟨_, rfl, _, rfl, a, _, _, Vn (row.getD at_ 0), rfl, rfl, SqT.of ha5, atI_nat (map_get hat'), szl 1, fun t1 ht1 => ?_⟩
  have u1 := same_new ht1 (.tup [Vn (row.getD at_ 0)])
  have q1 := hP5.lt ht1
  have hP6 := hP5.same u1
  have ha6 := u1 _ _ ha5
  have f1 : ThX K (upd H5 t1 (.tup [Vn (row.getD at_ 0)])) pu g (.ref t1) := thx_tup (SqT.of upd_same) q1 (by show 1 ≤ 200; decide) (fun e he => by rw [List.mem_singleton.mp he]; exact kdx_int _)
  generalize upd H5 t1 (.tup [Vn (row.getD at_ 0)]) = H6 at *
  refine ⟨_, rfl, _, rfl, a, _, _, Vn (row.getD at_ 0), rfl, rfl, SqT.of ha6, atI_nat (map_get hat'), szl 1, fun l1 hl1 => ?_⟩
  have u2 := same_new hl1 (.lst [Vn (row.getD at_ 0)])
  have q2 := hP6.lt hl1
  have hP7 := hP6.same u2
  have ha7 := u2 _ _ ha6
  have f2 : ThX K (upd H6 l1 (.lst [Vn (row.getD at_ 0)])) pu g (.ref l1) := thx_flat (T := "list") (.inl ⟨rfl, _, SqL.of upd_same⟩) (by decide) (apV_ref q2)
  replace f1 := f1.x (Same.x u2)
  generalize upd H6 l1 (.lst [Vn (row.getD at_ 0)]) = H7 at *
  refine ⟨_, rfl, _, rfl, a, _, _, Vn (row.getD at_ 0), rfl, rfl, SqT.of ha7, atI_nat (map_get hat'), _, _, rfl, rfl, ?_⟩
  refine ⟨10, 20, rfl, rfl, ⟨by decide, by decide, by decide⟩, szl 12, fun so hso => ?_⟩
  have sx7 := sx.trans (Same.x (u1.trans u2))
  dsimp only [gName]
  have hall : ∀ {xs : List V}, xs = [Vn far, V.int (-1 - (far : Int)), V.bl true, V.bl false, V.non, V.str z, V.ref t1, V.ref l1, V.int ((row.getD at_ 0 : Nat) + 1), V.int 0, V.int (10 ^ (20 : Int).toNat), V.int 63] → ∀ v ∈ xs, ThX K H7 pu g v := fun {xs} e v hv => by
    subst e
    have hi : ∀ i : Int, ThX K H7 pu g (.int i) := fun i => thx_flat (T := "int") rfl (by decide) (fun _ e => nomatch e)
    simp only [List.mem_cons, List.not_mem_nil, or_false] at hv
    rcases hv with rfl | rfl | rfl | rfl | rfl | rfl | rfl | rfl | rfl | rfl | rfl | rfl
    · exact hi _
    · exact hi _
    · exact thx_flat (T := "bool") rfl (by decide) (fun _ e => nomatch e)
    · exact thx_flat (T := "bool") rfl (by decide) (fun _ e => nomatch e)
    · exact thx_flat (T := "NoneType") rfl (by decide) (fun _ e => nomatch e)
    · exact thx_flat (T := "str") rfl (by decide) (fun _ e => nomatch e)
    · exact f1
    · exact f2
    · exact hi _
    · exact hi _
    · exact hi _
    · exact hi _
  have hall := hall rfl
  change tSeq _ _ _ _ (upd H7 so (.lst [Vn far, V.int (-1 - (far : Int)), V.bl true, V.bl false, V.non, V.str z, V.ref t1, V.ref l1, V.int ((row.getD at_ 0 : Nat) + 1), V.int 0, V.int (10 ^ (20 : Int).toNat), V.int 63]))
  generalize hods : [Vn far, V.int (-1 - (far : Int)), V.bl true, V.bl false, V.non, V.str z, V.ref t1, V.ref l1, V.int ((row.getD at_ 0 : Nat) + 1), V.int 0, V.int (10 ^ (20 : Int).toNat), V.int 63] = ods at hall ⊢
  have hodl : ods.length = 12 := by rw [← hods]; rfl
  clear hods
  have v1 := same_new hso (.lst ods)
  have eso : upd H7 so (.lst ods) so = some (.lst ods) := upd_same
  have nso := hP7.lt hso
  have hP8 := hP7.same v1
  have ha8 := v1 _ _ ha7
  have hall8 : ∀ v ∈ ods, ThX K (upd H7 so (.lst ods)) pu g v := fun v hv => (hall v hv).x (Same.x v1)
  have sx8 := sx7.trans (Same.x v1)
  generalize upd H7 so (.lst ods) = H8 at *
  refine ⟨_, rfl, _, _, rfl, rfl, decide ((way : Int) < 3), rfl, ?_⟩
  refine ite2 (fun c1 => ?_) (fun c1 => ?_)
  · refine ⟨_, rfl, _, rfl, (at_ : Int), rfl, sl_go hP8 na (SqT.of ha8) fun r1 ys1 H4 s4 er1 nr1 hl4 hs4 => ?_⟩
    have ha9 := s4 _ _ ha8
    rw [List.length_map] at hl4
    refine ⟨_, rfl, _, rfl, _, rfl, so, _, rfl, .inl (SqL.of (s4 _ _ eso)), pu, g, 12, by rw [hodl]; rfl, hP8.same s4, by omega, by omega, fun k Hk hk hPk sxk => ?_⟩
    have hk' : k < ods.length := by omega
    refine ⟨so, _, _, ods[k], rfl, rfl, SqL.of (sxk _ _ nso.1 nso.2 (s4 _ _ eso)), atI_nat (List.getElem?_eq_getElem hk'), ?_⟩
    have hv := ((hall8 _ (List.getElem_mem hk')).x (Same.x s4)).x sxk
    generalize ods[k] = v at hv ⊢
    refine ⟨szl 1, fun c1 hc1 => ?_⟩
    have hak := sxk _ _ na.1 na.2 ha9
    have s6 := same_new hc1 (.tup [v])
    refine cat_gx (hPk.same s6) nr1 (hPk.lt hc1) (Same.tup s6 (tup_x sxk nr1 er1)) (SqT.of upd_same) (by show ys1.length + 1 ≤ 1000; omega) fun c2 Hm s7 ec2 nc2 => ?_
    have ha7 := s7 _ _ (s6 _ _ hak)
    have hP7 := hPk.same (s6.trans s7)
    refine ⟨_, rfl, _, rfl, _, _, rfl, rfl, ((at_ : Int) + 1), rfl, noPart (sl_go hP7 na (SqT.of ha7) fun r3 ys3 Hn s8 er3 nr3 hl8 hs8 => ?_)⟩
    rw [List.length_map] at hl8
    refine cat_gx (hP7.same s8) nc2 nr3 (Same.tup s8 ec2) er3 (by rw [List.length_append]; show ys1.length + 1 + ys3.length ≤ 1000; omega) fun c4 Ho s9 ec4 nc4 => ?_
    have s69 := s6.trans (s7.trans (s8.trans s9))
    refine q (.ref c4) _ (thx_tup ec4 nc4 (by rw [List.length_append, List.length_append]; show ys1.length + 1 + ys3.length ≤ 200; omega) fun e he => ?_) (hPk.same s69) (sx8.trans ((Same.x s4).trans (sxk.trans (Same.x s69))))
    rcases List.mem_append.mp he with he | he
    · rcases List.mem_append.mp he with he | he
      · exact kr e (hs4 e he)
      · rw [List.mem_singleton.mp he]; exact hv.kd.x (Same.x s69)
    · exact kr e (hs8 e he)
  dsimp only [tNext]
  have tri : ∀ {x y z : Int} {l : Addr}, H8 l = none → Q (.ref l) (upd H8 l (.tup [.int x, .int y, .int z])) := fun {x y z l} hl => by
    have s9 := same_new hl (.tup [.int x, .int y, .int z])
    refine q _ _ (thx_tup (SqT.of upd_same) (hP8.lt hl) (by show 3 ≤ 200; decide) fun e he => ?_) (hP8.same s9) (sx8.trans (Same.x s9))
    simp only [List.mem_cons, List.not_mem_nil, or_false] at he
    rcases he with rfl | rfl | rfl <;> exact kdx_int _
  refine ⟨_, rfl, rfl, _, rfl, ?_⟩
  refine ite2 (fun c2 => ?_) (fun c2 => ?_)
  · exact ⟨_, rfl, _, rfl, _, rfl, szl 3, fun l hl => tri hl⟩
  dsimp only [tNext]
  refine ⟨_, rfl, rfl, _, rfl, ?_⟩
  refine ite2 (fun c3 => ?_) (fun c3 => ?_)
  · exact ⟨_, rfl, _, rfl, _, _, rfl, rfl, ⟨by show (0 : Int) < 4; decide, by show (4 : Int) < 2 ^ 64; decide⟩, _, _, rfl, rfl, _, rfl, szl 3, fun l hl => tri hl⟩
  dsimp only [tNext]
  refine ⟨_, rfl, a, _, rfl, .inr (SqT.of ha8), fun l2 hl2 => ?_⟩
  have s5 := same_new hl2 (.lst (row.map Vn))
  have g1 : ThX K (upd H8 l2 (.lst (row.map Vn))) pu g (.ref l2) := thx_flat (T := "list") (.inl ⟨rfl, _, SqL.of upd_same⟩) (by decide) (apV_ref (hP8.lt hl2))
  have hP9 := hP8.same s5
  have ha9 := s5 _ _ ha8
  have sx9 := sx8.trans (Same.x s5)
  generalize upd H8 l2 (.lst (row.map Vn)) = H9 at *
  refine ⟨_, rfl, _, rfl, (at_ : Int), rfl, sl_go hP9 na (SqT.of ha9) fun r1 ys1 Ha sa er1 nr1 hla hsa => ?_⟩
  have haa := sa _ _ ha9
  have hPa := hP9.same sa
  rw [List.length_map] at hla
  refine ⟨_, rfl, _, rfl, _, _, rfl, rfl, ((at_ : Int) + 1), rfl, noPart (sl_go hPa na (SqT.of haa) fun r2 ys2 Hb sb er2 nr2 hlb hsb => ?_)⟩
  rw [List.length_map] at hlb
  have hab := sb _ _ haa
  have hPb := hPa.same sb
  refine cat_gx hPb nr1 nr2 (Same.tup sb er1) er2 (by omega) fun r3 Hc sc er3 nr3 => ?_
  have hac := sc _ _ hab
  have hPc := hPb.same sc
  have g2 : ThX K Hc pu g (.ref r3) := thx_tup er3 nr3 (by rw [List.length_append]; omega) fun e he => by
    rcases List.mem_append.mp he with he | he
    · exact kr e (hsa e he)
    · exact kr e (hsb e he)
  refine ⟨_, rfl, szl 1, fun t2 ht2 => ?_⟩
  have sd := same_new ht2 (.tup [V.int 0])
  have nt2 := hPc.lt ht2
  have hPd := hPc.same sd
  have had := sd _ _ hac
  have et2 : SqT K (upd Hc t2 (.tup [V.int 0])) t2 [V.int 0] := SqT.of upd_same
  generalize upd Hc t2 (.tup [V.int 0]) = Hd at *
  refine cat_gx hPd na nt2 (SqT.of had) et2 (by rw [List.length_map, hl]; decide) fun r4 He se er4 nr4 => ?_
  have hae := se _ _ had
  have hPe := hPd.same se
  have g3 : ThX K He pu g (.ref r4) := thx_tup er4 nr4 (by rw [List.length_append, List.length_map, hl]; decide) fun e he => by
    rcases List.mem_append.mp he with he | he
    · exact kr e he
    · rw [List.mem_singleton.mp he]; exact kdx_int _
  refine ⟨_, rfl, a, _, rfl, SqT.of hae, fun r5 hr5 => ?_⟩
  have sf := same_new hr5 (.tup (row.map Vn).reverse)
  have g4 : ThX K (upd He r5 (.tup (row.map Vn).reverse)) pu g (.ref r5) := thx_tup (SqT.of upd_same) (hPe.lt hr5) (by rw [List.length_reverse, List.length_map]; omega) fun e he => kr e (List.mem_reverse.mp he)
  have hPf := hPe.same sf
  have haf := sf _ _ hae
  generalize upd He r5 (.tup (row.map Vn).reverse) = Hf at *
  refine ⟨szl 0, fun e0 he0 => ?_⟩
  have sg := same_new he0 (.tup [])
  have g5 : ThX K (upd Hf e0 (.tup [])) pu g (.ref e0) := thx_tup (SqT.of upd_same) (hPf.lt he0) (by show 0 ≤ 200; decide) (fun e he => nomatch he)
  have hPg := hPf.same sg
  have hag := sg _ _ haf
  generalize upd Hf e0 (.tup []) = Hg at *
  have s1g : Same H9 Hc := sa.trans (sb.trans sc)
  have s2g : Same Hc Hg := sd.trans (se.trans (sf.trans sg))
  refine ⟨szl 8, fun od hod => ?_⟩
  have hall2 : ∀ v ∈ [V.ref l2, V.ref r3, V.ref r4, V.ref r5, V.ref e0, V.non, V.bl true, V.str (Str.ofString "2.3.3")], ThX K Hg pu g v := fun v hv => by
    simp only [List.mem_cons, List.not_mem_nil, or_false] at hv
    rcases hv with rfl | rfl | rfl | rfl | rfl | rfl | rfl | rfl
    · exact g1.x (Same.x (s1g.trans s2g))
    · exact g2.x (Same.x s2g)
    · exact g3.x (Same.x (sf.trans sg))
    · exact g4.x (Same.x sg)
    · exact g5
    · exact thx_flat (T := "NoneType") rfl (by decide) (fun _ e => nomatch e)
    · exact thx_flat (T := "bool") rfl (by decide) (fun _ e => nomatch e)
    · exact thx_flat (T := "str") rfl (by decide) (fun _ e => nomatch e)
  change tSeq _ _ _ _ (upd Hg od (.lst [V.ref l2, V.ref r3, V.ref r4, V.ref r5, V.ref e0, V.non, V.bl true, V.str (Str.ofString "2.3.3")]))
  generalize hods2 : [V.ref l2, V.ref r3, V.ref r4, V.ref r5, V.ref e0, V.non, V.bl true, V.str (Str.ofString "2.3.3")] = os2 at hall2 ⊢
  have hodl2 : os2.length = 8 := by rw [← hods2]; rfl
  clear hods2
  have sh := same_new hod (.lst os2)
  have eod : upd Hg od (.lst os2) od = some (.lst os2) := upd_same
  have hPh := hPg.same sh
  have hah := sh _ _ hag
  have hallh : ∀ v ∈ os2, ThX K (upd Hg od (.lst os2)) pu g v := fun v hv => (hall2 v hv).x (Same.x sh)
  have sxh := sx9.trans (Same.x (s1g.trans (s2g.trans sh)))
  generalize upd Hg od (.lst os2) = Hh at *
  refine ⟨_, rfl, fun d0 hd0 => ?_⟩
  have si := same_new hd0 (.dK [])
  have g6 : ThX K (upd Hh d0 (.dK [])) pu g (.ref d0) := .inl ⟨"dict", .inr ⟨rfl, d0, [], rfl, upd_same⟩, by decide, apV_ref (hPh.lt hd0)⟩
  have hPi := hPh.same si
  have hai := si _ _ hah
  generalize upd Hh d0 (.dK []) = Hi at *
  refine ⟨_, rfl, szl 1, fun t3 ht3 => ?_⟩
  have sj := same_new ht3 (.tup [V.ref a])
  have haj := sj _ _ hai
  have g7 : ThX K (upd Hi t3 (.tup [V.ref a])) pu g (.ref t3) := thx_tup (SqT.of upd_same) (hPi.lt ht3) (by show 1 ≤ 200; decide) (fun e he => by rw [List.mem_singleton.mp he]; exact ⟨⟨"tuple", .inl (.inr ⟨rfl, _, SqT.of haj⟩)⟩, apV_ref na⟩)
  have hPj := hPi.same sj
  generalize upd Hi t3 (.tup [V.ref a]) = Hj at *
  refine ⟨szl 3, fun l3 hl3 => ?_⟩
  have sk := same_new hl3 (.lst [V.ref d0, V.ref t3, V.int 7])
  have sij := si.trans (sj.trans sk)
  refine ⟨od, l3, _, _, rfl, rfl, sij _ _ eod, upd_same, szl _ (by rw [hodl2]; show 8 + 3 ≤ 100000; decide), fun r hr => ?_⟩
  have sl := same_new hr (.lst (os2 ++ [V.ref d0, V.ref t3, V.int 7]))
  have er : upd (upd Hj l3 (.lst [V.ref d0, V.ref t3, V.int 7])) r (.lst (os2 ++ [V.ref d0, V.ref t3, V.int 7])) r = some (.lst (os2 ++ [V.ref d0, V.ref t3, V.int 7])) := upd_same
  have hPk := hPj.same sk
  have nr := hPk.lt hr
  have hPl := hPk.same sl
  have hall3 : ∀ v ∈ os2 ++ [V.ref d0, V.ref t3, V.int 7], ThX K (upd (upd Hj l3 (.lst [V.ref d0, V.ref t3, V.int 7])) r (.lst (os2 ++ [V.ref d0, V.ref t3, V.int 7]))) pu g v := fun v hv => by
    rcases List.mem_append.mp hv with h | h
    · exact (hallh v h).x (Same.x (sij.trans sl))
    · simp only [List.mem_cons, List.not_mem_nil, or_false] at h
      rcases h with rfl | rfl | rfl
      · exact g6.x (Same.x (sj.trans (sk.trans sl)))
      · exact g7.x (Same.x (sk.trans sl))
      · exact thx_flat (T := "int") rfl (by decide) (fun _ e => nomatch e)
  have sxl := sxh.trans (Same.x (sij.trans sl))
  have hlen : (os2 ++ [V.ref d0, V.ref t3, V.int 7]).length = 11 := by rw [List.length_append, hodl2]; rfl
  dsimp only [gName]
  generalize upd (upd Hj l3 (.lst [V.ref d0, V.ref t3, V.int 7])) r (.lst (os2 ++ [V.ref d0, V.ref t3, V.int 7])) = Hl at er hPl hall3 sxl ⊢
  generalize os2 ++ [V.ref d0, V.ref t3, V.int 7] = os3 at *
  refine ⟨_, rfl, _, rfl, _, rfl, r, _, rfl, .inl (SqL.of er), pu, g, 11, by rw [hlen]; rfl, hPl, by omega, by omega, fun k Hm hk hPm sxm => ?_⟩
  have hk' : k < os3.length := by omega
  refine ⟨r, _, _, os3[k], rfl, rfl, SqL.of (sxm _ _ nr.1 nr.2 er), atI_nat (List.getElem?_eq_getElem hk'), ?_⟩
  exact q _ _ ((hall3 _ (List.getElem_mem hk')).x sxm) hPm (sxl.trans sxm)
end
end My

end
section
-- text: Q01
set_option Elab.async false
set_option linter.all false
set_option maxRecDepth 100000
set_option maxHeartbeats 4000000
namespace My
open PySem L2 Dg
theorem op_isnB {X : Cx} : OpR X (compareOp .IsNot) (fun x y H Q => ∃ a b : Bool, x = .bl a ∧ y = .bl b ∧ Q (.bl (!(a == b))) H) := by
  intro pins s σ H x y v u Q I rx ry h
  obtain ⟨a, b, rfl, rfl, q⟩ := h
  cases rx; cases ry
  exact wpAny_pure ⟨.bl _, H, I, by cases a <;> cases b <;> rfl, q⟩
section
variable {P : Program} {w : World} {K : PySem.W.Frag} {mg : Str → Option Value} {base : Heap} {f : Addr} {fd : FuncData}
noncomputable def sp_ltold (K : PySem.W.Frag) : Sp := fun vs H Q _ => ∃ (x : V) (b : Bool), vs = [x] ∧ Res K H fB x b ∧ ∀ H', Same H H' → Q (.bl true) H'
theorem sc__law_told : FnScope ["_law_thing", "_law_found"] ["_law_thing"] (defScope s__law_told) := ⟨rfl, rfl, rfl, by decide +kernel, rfl, by decide +kernel, by decide +kernel⟩
theorem ok_ltold (B : Bl mg) (h_is_field : Has P w K mg base 6 "is_field" ["thing"] (sp_isfieldA K)) (h__law_due : Has P w K mg base 4 "_law_due" ["_law_thing"] (sp_isfieldA K)) (F : Fun K "_law_told" "_law_told" s__law_told f fd) : FnOk P w K mg base CX0 7 f fd ["_law_thing"] (sp_ltold K) := by
  refine F.ok sc__law_told (fun vs H Q E h => ?_) (fun cdv A outer s H vs Q E hr h => ?_)
  · obtain ⟨x, b, rfl, _⟩ := h; rfl
  obtain ⟨x, b, rfl, hx, q⟩ := h
  refine ⟨_, (@pss_cons _ _ _ _ _ (@ps_set _ _ 1 _ _ _ _ sc__law_told.nd rfl (Or.inl rfl) (@pe_callH _ _ _ _ _ _ _ _ _ _ _ h_is_field hr (by decide) rfl (@pa_cons _ _ _ _ _ (pv 0) pa_nil (by rfl)) (by decide) (by rfl) (by rfl)) (by rfl) (by first | exact .inl rfl | exact .inr rfl | assumption)) (@pss_one _ _ _ (@ps_ret _ _ _ _ (@pe_and _ _ _ _ _ _ _ (@pe_callB _ _ _ _ _ _ _ _ _ isiD_bool rfl (B "isinstance" (by decide)) PyProof.Rows.boot_isinstance (@pa_cons _ _ _ _ _ (pv 1) (@pa_cons _ _ _ _ _ (@pe_bltn _ _ _ _ _ rfl (B "bool" (by decide)) boot_ty_bool (id (α := RelV (.ty "bool") (.type "bool")) rfl) (by decide) (by decide)) pa_nil (by rfl)) (by rfl)) (by decide) (by decide) (by rfl) (by rfl)) (@pe_and _ _ _ _ _ _ _ (@pe_cmpR _ _ _ _ _ _ _ _ op_eq (pv 1) (@pe_callH _ _ _ _ _ _ _ _ _ _ _ h__law_due hr (by decide) rfl (@pa_cons _ _ _ _ _ (pv 0) pa_nil (by rfl)) (by decide) (by rfl) (by rfl)) (nomark _)) (@pe_one _ _ _ _ _ (@pe_cmpR _ _ _ _ _ _ _ _ op_eq (@pe_callH _ _ _ _ _ _ _ _ _ _ _ h_is_field hr (by decide) rfl (@pa_cons _ _ _ _ _ (pv 0) pa_nil (by rfl)) (by decide) (by rfl) (by rfl)) (pv 1) (nomark _)))))))), ?_⟩
  refine ⟨_, rfl, x, b, rfl, hx, fun H1 s1 => ?_⟩
  refine ⟨_, rfl, .bl b, "bool", rfl, .inl rfl, _, rfl, ?_⟩
  refine ite2 (fun _ => ?_) (fun c => absurd rfl c)
  refine ⟨_, rfl, _, rfl, x, b, rfl, hx.same s1, fun H2 s2 => ?_⟩
  refine ⟨rfl, true, by show V.bl (decide (V.bl b = V.bl b)) = _; rw [decide_eq_true rfl], ?_⟩
  refine ite2 (fun _ => ?_) (fun c => absurd rfl c)
  refine ⟨_, rfl, x, b, rfl, (hx.same s1).same s2, fun H3 s3 => ⟨_, rfl, rfl, ?_⟩⟩
  show Q (V.bl (decide (V.bl b = V.bl b))) H3
  rw [decide_eq_true rfl]
  exact q _ (s1.trans (s2.trans s3))
noncomputable def sp_law (K : PySem.W.Frag) : Sp := fun vs H Q _ => ∃ (a : Addr) (ns : List Int), vs = [.ref a] ∧ SqL K H a (ns.map V.int) ∧ ∀ H', Q (.bl true) H'
theorem sc_law : FnScope ["_law_script", "_law_purse_here", "_law_turn", "_law_field_here", "_law_many", "_law_tops"] ["_law_script"] (defScope s_law) := ⟨rfl, rfl, rfl, by decide +kernel, rfl, by decide +kernel, by decide +kernel⟩
theorem ok_law (B : Bl mg) (h__law_purse : Has P w K mg base 1 "_law_purse" ["_law_script"] (sp_purse K)) (h__law_pick : Has P w K mg base 1 "_law_pick" ["_law_purse_here", "_law_many"] sp_pick) (h__law_field : Has P w K mg base 4 "_law_field" ["_law_purse_here"] sp_field) (h__law_raised : Has P w K mg base 1 "_law_raised" ["_law_one", "_law_many"] sp_number_power) (h_is_field : Has P w K mg base 6 "is_field" ["thing"] (sp_isfieldA K)) (h_many_things : Has P w K mg base 2 "many_things" ["field"] (sp_manyI K)) (h__law_told : Has P w K mg base 7 "_law_told" ["_law_thing"] (sp_ltold K)) (h__law_otherwise : Has P w K mg base 2 "_law_otherwise" ["_law_purse_here", "_law_field_here"] (sp_otherF K)) (F : Fun K "law" "law" s_law f fd) : FnOk P w K mg base CX0 8 f fd ["_law_script"] (sp_law K) := by
  refine F.ok sc_law (fun vs H Q E h => ?_) (fun cdv A outer s H vs Q E hr h => ?_)
  · obtain ⟨a, ns, rfl, _⟩ := h; rfl
  obtain ⟨a, ns, rfl, ha, q⟩ := h
  refine ⟨_, (@pss_cons _ _ _ _ _ (@ps_set _ _ 1 _ _ _ _ sc_law.nd rfl (Or.inr rfl) (@pe_callH _ _ _ _ _ _ _ _ _ _ _ h__law_purse hr (by decide) rfl (@pa_cons _ _ _ _ _ (pv 0) pa_nil (by rfl)) (by decide) (by rfl) (by rfl)) (by rfl) (by first | exact .inl rfl | exact .inr rfl | assumption)) (@pss_cons _ _ _ _ _ (@ps_for _ _ _ _ _ _ _ _ PassesOwn.never rfl (@pi_range1 _ _ _ _ _ _ rfl (B "range" (by decide)) (@pa_cons _ _ _ _ _ (@pe_callB _ _ _ _ _ _ _ _ _ (call_max2 rfl) rfl (B "max" (by decide)) boot_bi_max (@pa_cons _ _ _ _ _ pe_int (@pa_cons _ _ _ _ _ (@pe_callB _ _ _ _ _ _ _ _ _ (call_min2 rfl) rfl (B "min" (by decide)) boot_bi_min (@pa_cons _ _ _ _ _ pe_int (@pa_cons _ _ _ _ _ (@pe_callB _ _ _ _ _ _ _ _ _ call_len_seq rfl (B "len" (by decide)) PySem.boot_len (@pa_cons _ _ _ _ _ (pv 0) pa_nil (by rfl)) (by decide) (by decide) (by rfl) (by rfl)) pa_nil (by rfl)) (by rfl)) (by decide) (by decide) (by rfl) (by rfl)) pa_nil (by rfl)) (by rfl)) (by decide) (by decide) (by rfl) (by rfl)) pa_nil (by rfl)) (by rfl)) (@pg_name _ _ 2 _ sc_law.nd rfl (Or.inl rfl) (by first | exact .inl rfl | exact .inr rfl | assumption)) (@pss_cons _ _ _ _ _ (@ps_set _ _ 3 _ _ _ _ sc_law.nd rfl (Or.inr rfl) (@pe_callH _ _ _ _ _ _ _ _ _ _ _ h__law_field hr (by decide) rfl (@pa_cons _ _ _ _ _ (pv 1) pa_nil (by rfl)) (by decide) (by rfl) (by rfl)) (by rfl) (by first | exact .inl rfl | exact .inr rfl | assumption)) (@pss_cons _ _ _ _ _ (@ps_set _ _ 4 _ _ _ _ sc_law.nd rfl (Or.inr rfl) (@pe_callH _ _ _ _ _ _ _ _ _ _ _ h__law_raised hr (by decide) rfl (@pa_cons _ _ _ _ _ (@pe_ix _ _ _ _ _ _ _ ix_tup (pv 3) pe_int (fun _ _ => rfl)) (@pa_cons _ _ _ _ _ (@pe_ix _ _ _ _ _ _ _ ix_tup (pv 3) pe_int (fun _ _ => rfl)) pa_nil (by rfl)) (by rfl)) (by decide) (by rfl) (by rfl)) (by rfl) (by first | exact .inl rfl | exact .inr rfl | assumption)) (@pss_cons _ _ _ _ _ (@ps_if _ _ _ _ _ _ _ _ (@PW.pt _ _ _ (@pw_or _ _ _ _ _ _ _ (@pt_cmpR _ _ _ _ _ _ _ _ op_isnB (@pe_callH _ _ _ _ _ _ _ _ _ _ _ h_is_field hr (by decide) rfl (@pa_cons _ _ _ _ _ (pv 3) pa_nil (by rfl)) (by decide) (by rfl) (by rfl)) pe_bl (nomark _)) (@pw_or _ _ _ _ _ _ _ (@pt_cmpR _ _ _ _ _ _ _ _ op_ne (@pe_callH _ _ _ _ _ _ _ _ _ _ _ h_many_things hr (by decide) rfl (@pa_cons _ _ _ _ _ (pv 3) pa_nil (by rfl)) (by decide) (by rfl) (by rfl)) (pv 4) (nomark _)) (@pw_or1 _ _ _ _ (@pt_val _ _ _ (@pe_callB _ _ _ _ _ _ _ _ _ isiD_bool rfl (B "isinstance" (by decide)) PyProof.Rows.boot_isinstance (@pa_cons _ _ _ _ _ (@pe_callH _ _ _ _ _ _ _ _ _ _ _ h_many_things hr (by decide) rfl (@pa_cons _ _ _ _ _ (pv 3) pa_nil (by rfl)) (by decide) (by rfl) (by rfl)) (@pa_cons _ _ _ _ _ (@pe_bltn _ _ _ _ _ rfl (B "bool" (by decide)) boot_ty_bool (id (α := RelV (.ty "bool") (.type "bool")) rfl) (by decide) (by decide)) pa_nil (by rfl)) (by rfl)) (by decide) (by decide) (by rfl) (by rfl)) (by intro _; rfl)))))) (@pss_one _ _ _ (@ps_ret _ _ _ _ pe_bl)) pss_nil) (@pss_cons _ _ _ _ _ (@ps_set _ _ 5 _ _ _ _ sc_law.nd rfl (Or.inl rfl) (@pe_callTy _ _ _ _ _ _ _ _ _ (call_list_rng rfl) rfl (B "list" (by decide)) boot_ty_list (@pa_cons _ _ _ _ _ (@pe_range1 _ _ _ _ _ rfl (B "range" (by decide)) (@pa_cons _ _ _ _ _ (pv 4) pa_nil (by rfl)) (by rfl)) pa_nil (by rfl)) (by decide) (by decide) (by rfl) (by rfl)) (by rfl) (by first | exact .inl rfl | exact .inr rfl | assumption)) (@pss_cons _ _ _ _ _ (@ps_if _ _ _ _ _ _ _ _ (@pt_cmpR _ _ _ _ _ _ _ _ op_gt (pv 4) pe_int (nomark _)) (@pss_one _ _ _ (@ps_setC _ 5 _ _ _ _ _ _ _ _ _ ["_law_k"] ["_law_purse_here", "_law_many"] [1, 4] _ _ _ _ sc_law.nd rfl (Or.inl rfl) (id (α := CSc ["_law_script", "_law_purse_here", "_law_turn", "_law_field_here", "_law_many", "_law_tops"] (defScope s_law) ["_law_k"] ["_law_purse_here", "_law_many"] [1, 4] _) ⟨by rfl, by decide +kernel, by decide +kernel, by decide +kernel, by decide +kernel, by rfl, by decide +kernel⟩) rfl (@pi_range1 _ _ _ _ _ _ rfl (B "range" (by decide)) (@pa_cons _ _ _ _ _ pe_int pa_nil (by rfl)) (by rfl)) (fun cl C fp s H => (@pg_name _ _ 0 _ (by show List.Nodup (["_law_k", "_law_purse_here", "_law_many"] : List Str); decide +kernel) rfl (Or.inl rfl) (by first | exact .inl rfl | exact .inr rfl | assumption))) (fun _ _ _ _ _ => pifs_nil) (fun _ _ _ _ _ => (@pe_callH _ _ _ _ _ _ _ _ _ _ _ h__law_pick hr (by decide) rfl (@pa_cons _ _ _ _ _ (pv 1) (@pa_cons _ _ _ _ _ (pv 2) pa_nil (by rfl)) (by rfl)) (by decide) (by rfl) (by rfl))) (by rfl) (by intro _; rfl) (by first | exact .inl rfl | exact .inr rfl | assumption))) pss_nil) (@pss_cons _ _ _ _ _ (@ps_if _ _ _ _ _ _ _ _ (@pt_not _ _ _ _ (@pt_val _ _ _ (@pe_callB _ _ _ _ _ _ _ _ _ (call_all rfl) rfl (B "all" (by decide)) PyProof.Rows.boot_all (@pa_cons _ _ _ _ _ (@pe_lcomp _ _ _ _ _ _ _ ["_law_top"] ["_law_field_here"] [3] _ _ _ _ (id (α := CSc ["_law_script", "_law_purse_here", "_law_turn", "_law_field_here", "_law_many", "_law_tops"] (defScope s_law) ["_law_top"] ["_law_field_here"] [3] _) ⟨by rfl, by decide +kernel, by decide +kernel, by decide +kernel, by decide +kernel, by rfl, by decide +kernel⟩) rfl (@pi_list _ _ _ _ (pv 5)) (fun cl C fp s H => (@pg_name _ _ 0 _ (by show List.Nodup (["_law_top", "_law_field_here"] : List Str); decide +kernel) rfl (Or.inl rfl) (by first | exact .inl rfl | exact .inr rfl | assumption))) (fun _ _ _ _ _ => pifs_nil) (fun _ _ _ _ _ => (@pe_callH _ _ _ _ _ _ _ _ _ _ _ h__law_told hr (by decide) rfl (@pa_cons _ _ _ _ _ (@pe_tup _ _ _ _ _ (@pa_cons _ _ _ _ _ (@pe_ix _ _ _ _ _ _ _ (ix_tupK (K := K) rfl) (pv 1) pe_int (fun _ _ => rfl)) (@pa_cons _ _ _ _ _ (@pe_ix _ _ _ _ _ _ _ (ix_tupK (K := K) rfl) (pv 1) pe_int (fun _ _ => rfl)) (@pa_cons _ _ _ _ _ (pv 0) pa_nil (by rfl)) (by rfl)) (by rfl))) pa_nil (by rfl)) (by decide) (by rfl) (by rfl))) (by intro _; rfl)) pa_nil (by rfl)) (by decide) (by decide) (by rfl) (by rfl)) (by intro _; rfl))) (@pss_one _ _ _ (@ps_ret _ _ _ _ pe_bl)) pss_nil) (@pss_one _ _ _ (@ps_if _ _ _ _ _ _ _ _ (@pt_not _ _ _ _ (@pt_val _ _ _ (@pe_callB _ _ _ _ _ _ _ _ _ (call_all rfl) rfl (B "all" (by decide)) PyProof.Rows.boot_all (@pa_cons _ _ _ _ _ (@pe_lcomp _ _ _ _ _ _ _ ["_law_k"] ["_law_purse_here", "_law_field_here"] [1, 3] _ _ _ _ (id (α := CSc ["_law_script", "_law_purse_here", "_law_turn", "_law_field_here", "_law_many", "_law_tops"] (defScope s_law) ["_law_k"] ["_law_purse_here", "_law_field_here"] [1, 3] _) ⟨by rfl, by decide +kernel, by decide +kernel, by decide +kernel, by decide +kernel, by rfl, by decide +kernel⟩) rfl (@pi_range1 _ _ _ _ _ _ rfl (B "range" (by decide)) (@pa_cons _ _ _ _ _ pe_int pa_nil (by rfl)) (by rfl)) (fun cl C fp s H => (@pg_name _ _ 0 _ (by show List.Nodup (["_law_k", "_law_purse_here", "_law_field_here"] : List Str); decide +kernel) rfl (Or.inl rfl) (by first | exact .inl rfl | exact .inr rfl | assumption))) (fun _ _ _ _ _ => pifs_nil) (fun _ _ _ _ _ => (@pe_callH _ _ _ _ _ _ _ _ _ _ _ h__law_told hr (by decide) rfl (@pa_cons _ _ _ _ _ (@pe_callH _ _ _ _ _ _ _ _ _ _ _ h__law_otherwise hr (by decide) rfl (@pa_cons _ _ _ _ _ (pv 1) (@pa_cons _ _ _ _ _ (pv 2) pa_nil (by rfl)) (by rfl)) (by decide) (by rfl) (by rfl)) pa_nil (by rfl)) (by decide) (by rfl) (by rfl))) (by intro _; rfl)) pa_nil (by rfl)) (by decide) (by decide) (by rfl) (by rfl)) (by intro _; rfl))) (@pss_one _ _ _ (@ps_ret _ _ _ _ pe_bl)) pss_nil)))))))) (by intro _; rfl)) (@pss_one _ _ _ (@ps_ret _ _ _ _ pe_bl)))), ?_⟩
  refine ⟨_, rfl, a, ns, rfl, ha, fun pu g H1 n1 n2 s1 hP => ?_⟩
  have ha1 := same_lst s1 ha
  refine ⟨_, rfl, a, _, rfl, .inl ha1, ?_⟩
  refine ⟨_, _, rfl, _, _, rfl, ?_⟩
  generalize hj : (if (if (((ns.map V.int).length : Nat) : Int) < 4 then (((ns.map V.int).length : Nat) : Int) else 4) > 1 then (if (((ns.map V.int).length : Nat) : Int) < 4 then (((ns.map V.int).length : Nat) : Int) else 4) else 1) = jj
  have hjj : 1 ≤ jj ∧ jj ≤ 4 := by rw [← hj]; split <;> split at * <;> omega
  refine ⟨jj, rfl, by omega, by omega, ?_⟩
  refine for_range (fun i σ H' => Pu H' pu g ∧ ∃ s2 s3 s4 s5, σ = [some (.ref a), some (.ref pu), s2, s3, s4, s5]) ⟨hP, none, none, none, none, rfl⟩ ?_ (fun σ H' _ => q _)
  rintro jt σ H2 hjt ⟨hP2, s2, s3, s4, s5, rfl⟩
  refine ⟨_, rfl, pu, g, rfl, hP2, fun fa p m t H3 nf1 nf2 nf ef G hP3 sx3 => ?_⟩
  have hp := G.hp
  have hm := G.hm
  have hQ := G.hq
  have hQ2 := one_lt hp hm
  have hp2 := p_le hp hm hQ
  have hm6 := m_le hp hQ
  have ht := G.top
  dsimp only [gName]
  refine ⟨_, rfl, fa, _, _, Vn p, rfl, rfl, SqT.of ef, rfl, _, rfl, fa, _, _, Vn m, rfl, rfl, SqT.of ef, rfl, p, m, rfl, hp2, by lia, ?_⟩
  dsimp only [gName]
  have tri : ∀ {H' : Hp} {b : Addr} {t : Nat}, SqT K H' b [Vn p, Vn m, Vn t] → Res K H' fB (.ref b) (fB [Vn p, Vn m, Vn t]) := fun {H' b t} h => .inr ⟨b, _, rfl, h, by show 3 ≤ 200; decide, fun e he => by
    simp only [List.mem_cons, List.not_mem_nil, or_false] at he
    rcases he with rfl | rfl | rfl <;> exact ⟨"int", .inl rfl⟩, rfl⟩
  have fT : fB [Vn p, Vn m, Vn t] = true := fB_b (b := true) ⟨fun _ => G, fun _ => rfl⟩
  refine ⟨_, rfl, .ref fa, _, rfl, tri (SqT.of ef), fun H4 s4' => ?_⟩
  rw [fT]
  refine ⟨true, true, rfl, rfl, false, rfl, ?_⟩
  refine ite2 (fun c => absurd c (by decide)) (fun _ => ?_)
  have ef4 := s4' _ _ ef
  refine ⟨_, rfl, fa, p, m, Vn t, rfl, SqT.of ef4, hp2, by lia, _, rfl, rfl, false, by show V.bl (!decide (Vn (p ^ m) = Vn (p ^ m))) = _; rw [decide_eq_true rfl]; rfl, ?_⟩
  refine ite2 (fun c => absurd c (by decide)) (fun _ => ?_)
  refine ⟨_, rfl, fa, p, m, Vn t, rfl, SqT.of ef4, hp2, by lia, Vn (p ^ m), "int", rfl, .inl rfl, false, rfl, ?_⟩
  refine ite2 (fun c => absurd c (by decide)) (fun _ => ?_)
  dsimp only [tNext]
  have hP4 := hP3.same s4'
  refine ⟨_, rfl, _, rfl, fun ro hro => ?_⟩
  refine ⟨ro, 0, _, rfl, upd_same, ⟨by lia, by lia, by lia, by lia⟩, szl _ (by lia), fun tl htl => ?_⟩
  have t5 := (same_new hro (.rng 0 ((p ^ m : Nat) : Int))).trans (same_new htl (.lst (L2.intsFrom 0 (((p ^ m : Nat) : Int) - 0).toNat)))
  obtain ⟨us, hus, hul, hup⟩ : ∃ us : List Nat, L2.intsFrom 0 (((p ^ m : Nat) : Int) - 0).toNat = us.map Vn ∧ us.length ≤ 100 ∧ ∀ u ∈ us, u < p ^ m := by
    refine ⟨List.range (p ^ m), ?_, by rw [List.length_range]; lia, fun u hu => List.mem_range.mp hu⟩
    rw [L2.intsFrom, show (((p ^ m : Nat) : Int) - 0).toNat = p ^ m by lia]
    exact List.map_congr_left fun x _ => by show V.int (0 + (x : Int)) = V.int (x : Int); rw [Int.zero_add]
  rw [hus] at t5 ⊢
  have etl : upd (upd H4 ro (.rng 0 ((p ^ m : Nat) : Int))) tl (.lst (us.map Vn)) tl = some (.lst (us.map Vn)) := upd_same
  have hP5 := hP4.same t5
  have ef5 := t5 _ _ ef4
  dsimp only [gName]
  change tSeq _ _ _ _ (upd (upd H4 ro (.rng 0 ((p ^ m : Nat) : Int))) tl (.lst (us.map Vn)))
  generalize upd (upd H4 ro (.rng 0 ((p ^ m : Nat) : Int))) tl (.lst (us.map Vn)) = H5 at etl hP5 ef5 ⊢
  clear t5 hus htl hro
  refine ⟨_, rfl, _, _, rfl, rfl, _, rfl, ?_⟩
  refine ite2 (fun c => ?_) (fun c => ?_)
  case' refine_1 =>
    clear etl hup hul
    refine ⟨12, rfl, by lia, by lia, ?_⟩
    refine comp_any seqs_range (fun k acc H' => Pu H' pu g ∧ SameX pu g H5 H' ∧ ∃ gs : List Nat, gs.length = k ∧ acc = gs.map Vn ∧ ∀ x ∈ gs, x < p ^ m) ⟨hP5, SameX.refl, ([] : List Nat), rfl, rfl, fun x hx => absurd hx (by simp)⟩ (fun _ _ _ _ _ => trivial) ?_ ?_ ?_
    · rintro k acc H' hk ⟨_, _, gs, e, rfl, _⟩
      have hk : k < 12 := hk
      rw [List.length_map, e]; exact small1000 (by lia)
    · rintro k acc x Ha Hb hk ⟨hPa, sxa, gs, e, rfl, hgs⟩ ⟨rfl, rfl⟩
      refine ⟨_, rfl, _, rfl, pu, g, p ^ m, rfl, hPa, by lia, by lia, fun v Hc hv hPc sxc => ?_⟩
      refine ⟨hPc, sxa.trans sxc, gs ++ [v], by simp [e], by simp, fun x hx => ?_⟩
      rcases List.mem_append.mp hx with h | h
      · exact hgs x h
      · rw [List.mem_singleton.mp h]; exact hv
    rintro acc H9 ⟨hP9, sx9, us, egl, rfl, hup⟩ tl htl
    have hul : us.length ≤ 100 := by have : us.length = 12 := egl; lia
    have t9 := same_new htl (.lst (us.map Vn))
    replace ef5 := t9 _ _ (sx9 _ _ nf1 nf2 ef5)
    replace hP5 := hP9.same t9
    have etl : upd H9 tl (.lst (us.map Vn)) tl = some (.lst (us.map Vn)) := upd_same
    clear sx9
    dsimp only [gName]
    change tSeq _ _ _ _ (upd H9 tl (.lst (us.map Vn)))
    generalize upd H9 tl (.lst (us.map Vn)) = H5 at etl hP5 ef5 ⊢
  case' refine_2 =>
    dsimp only [tNext]
  all_goals
    refine ⟨_, rfl, tl, rfl, ⟨_, SqL.of etl⟩, ?_⟩
    refine comp_any (seqs_list (xs := us.map Vn)) (fun i acc H' => Same H5 H' ∧ acc = (List.replicate i true).map V.bl) ⟨Same.refl _, rfl⟩ (fun i acc H' _ h => SqL.of (h.1 _ _ etl)) ?_ ?_ ?_
    · rintro i acc H' hi ⟨_, rfl⟩
      rw [List.length_map] at hi
      rw [List.length_map, List.length_replicate]; exact small1000 (by lia)
    · rintro i acc z Ha Hb hi ⟨sa, rfl⟩ ⟨rfl, ez⟩
      rw [List.length_map] at hi
      rw [map_get hi] at ez
      cases ez
      have efa := sa _ _ ef5
      refine ⟨_, rfl, fa, _, _, Vn p, rfl, rfl, SqT.of efa, rfl, _, rfl, fa, _, _, Vn m, rfl, rfl, SqT.of efa, rfl, _, rfl, szl 3, fun t1 ht1 => ?_⟩
      refine ⟨.ref t1, _, rfl, tri (SqT.of upd_same), fun Hc sc => ⟨sa.trans ((same_new ht1 _).trans sc), ?_⟩⟩
      rw [List.replicate_succ', List.map_append]; rfl
    rintro acc H6 ⟨s6, rfl⟩ D hD
    have s7 := s6.trans (same_new hD (.lst ((List.replicate (us.map Vn).length true).map V.bl)))
    refine ⟨D, _, rfl, SqL.of upd_same, true, by show V.bl (List.all _ id) = _; rw [show (List.replicate (us.map Vn).length true).all id = true by simp], ?_⟩
    refine ite2 (fun c => absurd c (by decide)) (fun _ => ?_)
    dsimp only [tNext]
    have hP7 := hP5.same s7
    have ef7 := s7 _ _ ef5
    change tIfS _ _ _ _ _ (upd H6 D _)
    generalize upd H6 D _ = H7 at hP7 ef7 ⊢
    refine ⟨12, rfl, by lia, by lia, ?_⟩
    refine comp_any seqs_range (fun i acc H' => Pu H' pu g ∧ SameX pu g H7 H' ∧ acc = (List.replicate i true).map V.bl) ⟨hP7, SameX.refl, rfl⟩ (fun _ _ _ _ _ => trivial) ?_ ?_ ?_
    · rintro i acc H' hi ⟨_, _, rfl⟩
      have hi : i < 12 := hi
      rw [List.length_map, List.length_replicate]; exact small1000 (by lia)
    · rintro i acc z Ha Hb hi ⟨hPa, sxa, rfl⟩ ⟨rfl, rfl⟩
      refine ⟨_, rfl, _, rfl, pu, g, fa, p, m, t, rfl, hPa, sxa _ _ nf1 nf2 ef7, ⟨nf1, nf2⟩, by lia, by lia, by lia, fun v Hb hv hPb sxb => ?_⟩
      obtain ⟨b, hb⟩ := hv.res fB
      refine ⟨v, b, rfl, hb, fun Hc sc => ⟨hPb.same sc, sxa.trans (sxb.trans (Same.x sc)), ?_⟩⟩
      rw [List.replicate_succ', List.map_append]; rfl
    rintro acc H8 ⟨hP8, sx8, rfl⟩ D2 hD2
    refine ⟨D2, _, rfl, SqL.of upd_same, true, by show V.bl (List.all _ id) = _; rw [show (List.replicate (12 : Int).toNat true).all id = true by decide], ?_⟩
    refine ite2 (fun c => absurd c (by decide)) (fun _ => ?_)
    exact ⟨hP8.same (same_new hD2 _), _, _, _, _, rfl⟩
end
end My

end
section
-- text: Z01
set_option Elab.async false
set_option linter.all false
set_option maxRecDepth 100000
set_option maxHeartbeats 4000000
namespace My
open PySem L2 Dg
theorem law_asks {K : PySem.W.Frag} {H : Hp} {a : Addr} {ns : List Int} {E : XK} (hl : ns.length ≤ 63) (hS : SqL K H a (ns.map V.int)) : sp_law K [.ref a] H (fun v _ => v = .bl true) E := ⟨a, ns, rfl, hS, fun _ => rfl⟩
noncomputable def DI (K : PySem.W.Frag) (f : Addr) (x : Str) (st : Stmt) : Prop := ∃ fd : FuncData, Fun K x x st f fd ∧ PySem.W.nsIn K mainGlobals x = some (some (.ref f))
theorem DI.mk {K : PySem.W.Frag} {x : Str} {st : Stmt} {f : Addr} {oc : Value} {od an : Option Addr} {osl : Array (Option Value)} {kV doc pm cdv ct : Value} (a : PySem.W.nsIn K mainGlobals x = some (some (.ref f))) (l : K.lookup f = some ⟨oc, od, .func (PySem.W.fnOf x x (defArgs st) (defBody st) (defScope st) .none kV doc pm an cdv ct), osl⟩) (c : PySem.W.codeIn K cdv x = true) (k : PySem.W.keepIn K (.ref f) = true) : DI K f x st := ⟨_, fun_mk (st := st) l c k, a⟩
theorem DI.has {P : Program} {w : World} {K : PySem.W.Frag} {mg : Str → Option Value} {base h : Heap} {f : Addr} {x : Str} {st : Stmt} {n : Nat} {ps : List Str} {sp : Sp} (X : K.In h) (G : h.Ns mainGlobals mg) (q : DI K f x st) (ok : ∀ fd, Fun K x x st f fd → FnOk P w K mg base CX0 n f fd ps sp) (b : ∀ (kV doc pm : Value) (an : Option Addr) (cdv ct : Value) (us : List Value), us.length = ps.length → bindArgs (PySem.W.fnOf x x (defArgs st) (defBody st) (defScope st) .none kV doc pm an cdv ct) ⟨us, []⟩ = pure (ps.zip us)) : Has P w K mg base n x ps sp := by
  obtain ⟨fd, F, a⟩ := q
  exact ⟨f, fd, ok fd F, F.binds b, F.2, PySem.W.mg_of X G a⟩
theorem blen1 {P : List Value → Prop} (h : ∀ a0, P [a0]) : ∀ us : List Value, us.length = 1 → P us | [a0], _ => h a0
theorem blen2 {P : List Value → Prop} (h : ∀ a0 a1, P [a0, a1]) : ∀ us : List Value, us.length = 2 → P us | [a0, a1], _ => h a0 a1
theorem blen3 {P : List Value → Prop} (h : ∀ a0 a1 a2, P [a0, a1, a2]) : ∀ us : List Value, us.length = 3 → P us | [a0, a1, a2], _ => h a0 a1 a2
theorem all_mk {l : PySem.W.OpenLaw} {w : World} {K : PySem.W.Frag} {h : Heap} {mg : Str → Option Value} {fa : Addr} (X : K.In h) (G : h.Ns mainGlobals mg) (hfa : mg "law" = some (.ref fa))
    {f1 : Addr} (q1 : DI K f1 "is_whole" s_is_whole) {f2 : Addr} (q2 : DI K f2 "is_wholes" s_is_wholes) {f3 : Addr} (q3 : DI K f3 "number_power" s_number_power) {f4 : Addr} (q4 : DI K f4 "is_prime" s_is_prime) {f5 : Addr} (q5 : DI K f5 "many_things" s_many_things) {f6 : Addr} (q6 : DI K f6 "plus" s_plus) {f7 : Addr} (q7 : DI K f7 "digit_times" s_digit_times) {f8 : Addr} (q8 : DI K f8 "lifted" s_lifted) {f9 : Addr} (q9 : DI K f9 "times" s_times) {f10 : Addr} (q10 : DI K f10 "times_itself" s_times_itself) {f11 : Addr} (q11 : DI K f11 "all_come_to_one" s_all_come_to_one) {f12 : Addr} (q12 : DI K f12 "is_field" s_is_field) {f13 : Addr} (q13 : DI K f13 "_law_purse" s__law_purse) {f14 : Addr} (q14 : DI K f14 "_law_pick" s__law_pick) {f15 : Addr} (q15 : DI K f15 "_law_raised" s__law_raised) {f16 : Addr} (q16 : DI K f16 "_law_digits" s__law_digits) {f17 : Addr} (q17 : DI K f17 "_law_number" s__law_number) {f18 : Addr} (q18 : DI K f18 "_law_product" s__law_product) {f19 : Addr} (q19 : DI K f19 "_law_is_good" s__law_is_good) {f20 : Addr} (q20 : DI K f20 "_law_field" s__law_field) {f21 : Addr} (q21 : DI K f21 "_law_is_whole" s__law_is_whole) {f22 : Addr} (q22 : DI K f22 "_law_due" s__law_due) {f23 : Addr} (q23 : DI K f23 "_law_otherwise" s__law_otherwise) {f24 : Addr} (q24 : DI K f24 "_law_told" s__law_told) {f25 : Addr} (q25 : DI K f25 "law" s_law)
    {tk_MOST_THINGS : Tok} (kk_MOST_THINGS : PySem.W.nsIn K mainGlobals "MOST_THINGS" = some (some (.int 64 tk_MOST_THINGS)))
    (z1 : PySem.W.nsIn K mainGlobals "range" = some none) (z2 : PySem.W.nsIn K mainGlobals "len" = some none) (z3 : PySem.W.nsIn K mainGlobals "abs" = some none) (z4 : PySem.W.nsIn K mainGlobals "min" = some none) (z5 : PySem.W.nsIn K mainGlobals "max" = some none) (z6 : PySem.W.nsIn K mainGlobals "all" = some none) (z7 : PySem.W.nsIn K mainGlobals "any" = some none) (z8 : PySem.W.nsIn K mainGlobals "isinstance" = some none) (z9 : PySem.W.nsIn K mainGlobals "int" = some none) (z10 : PySem.W.nsIn K mainGlobals "bool" = some none) (z11 : PySem.W.nsIn K mainGlobals "tuple" = some none) (z12 : PySem.W.nsIn K mainGlobals "list" = some none) (z13 : PySem.W.nsIn K mainGlobals "zip" = some none) (z14 : PySem.W.nsIn K mainGlobals "enumerate" = some none) (z15 : PySem.W.nsIn K mainGlobals "repr" = some none) (z16 : PySem.W.nsIn K mainGlobals "dict" = some none) (z17 : PySem.W.nsIn K mainGlobals "reversed" = some none) (z18 : PySem.W.nsIn K mainGlobals "sorted" = some none) (z19 : PySem.W.nsIn K mainGlobals "sum" = some none) (z20 : PySem.W.nsIn K mainGlobals "set" = some none) (z21 : PySem.W.nsIn K mainGlobals "str" = some none) :
    ∃ fd : FuncData, (∀ (s : Shared) (v : Value), BindsTo s fd ⟨[v], []⟩ [("_law_script", v)]) ∧ ∀ base : Heap, K.In base → base.Ns mainGlobals mg → FnOk l.prog w K mg base CX0 8 fa fd ["_law_script"] (sp_law K) := by
  obtain ⟨_, ⟨⟨oc, od, kV, dc, pm, an, cd, ct, sl, rfl, lL, cL⟩, kL⟩, aL⟩ := q25
  have e := hfa.symm.trans (PySem.W.mg_of X G aL)
  cases e
  have F25 := fun_mk (st := s_law) lL cL kL
  have B : Bl mg := List.forall_mem_cons.mpr ⟨PySem.W.mg_none_of X G z1, List.forall_mem_cons.mpr ⟨PySem.W.mg_none_of X G z2, List.forall_mem_cons.mpr ⟨PySem.W.mg_none_of X G z3, List.forall_mem_cons.mpr ⟨PySem.W.mg_none_of X G z4, List.forall_mem_cons.mpr ⟨PySem.W.mg_none_of X G z5, List.forall_mem_cons.mpr ⟨PySem.W.mg_none_of X G z6, List.forall_mem_cons.mpr ⟨PySem.W.mg_none_of X G z7, List.forall_mem_cons.mpr ⟨PySem.W.mg_none_of X G z8, List.forall_mem_cons.mpr ⟨PySem.W.mg_none_of X G z9, List.forall_mem_cons.mpr ⟨PySem.W.mg_none_of X G z10, List.forall_mem_cons.mpr ⟨PySem.W.mg_none_of X G z11, List.forall_mem_cons.mpr ⟨PySem.W.mg_none_of X G z12, List.forall_mem_cons.mpr ⟨PySem.W.mg_none_of X G z13, List.forall_mem_cons.mpr ⟨PySem.W.mg_none_of X G z14, List.forall_mem_cons.mpr ⟨PySem.W.mg_none_of X G z15, List.forall_mem_cons.mpr ⟨PySem.W.mg_none_of X G z16, List.forall_mem_cons.mpr ⟨PySem.W.mg_none_of X G z17, List.forall_mem_cons.mpr ⟨PySem.W.mg_none_of X G z18, List.forall_mem_cons.mpr ⟨PySem.W.mg_none_of X G z19, List.forall_mem_cons.mpr ⟨PySem.W.mg_none_of X G z20, List.forall_mem_cons.mpr ⟨PySem.W.mg_none_of X G z21, (fun _ h => nomatch h)⟩⟩⟩⟩⟩⟩⟩⟩⟩⟩⟩⟩⟩⟩⟩⟩⟩⟩⟩⟩⟩
  have m_MOST_THINGS := PySem.W.mg_of X G kk_MOST_THINGS
  refine ⟨PySem.W.fnOf "law" "law" (defArgs s_law) (defBody s_law) (defScope s_law) .none kV dc pm an cd ct, fun s v => .of_eq rfl, fun base _ _ => ?_⟩
  have M := fun {f x st n ps sp} => @DI.has l.prog w K mg base h f x st n ps sp X G
  have h_is_whole := M q1 (fun _ F => ok_isw B  F) (fun _ _ _ _ _ _ => blen1 fun _ => rfl)
  have h_is_wholes := M q2 (fun _ F => ok_wholes B h_is_whole F) (fun _ _ _ _ _ _ => blen2 fun _ _ => rfl)
  have h_number_power := M q3 (fun _ F => ok_number_power B  F) (fun _ _ _ _ _ _ => blen2 fun _ _ => rfl)
  have h_is_prime := M q4 (fun _ F => ok_primeA B  F) (fun _ _ _ _ _ _ => blen1 fun _ => rfl)
  have h_many_things := M q5 (fun _ F => ok_manyI B h_number_power F) (fun _ _ _ _ _ _ => blen1 fun _ => rfl)
  have h_plus := M q6 (fun _ F => ok_plus B  F) (fun _ _ _ _ _ _ => blen3 fun _ _ _ => rfl)
  have h_digit_times := M q7 (fun _ F => ok_digit_times B  F) (fun _ _ _ _ _ _ => blen3 fun _ _ _ => rfl)
  have h_lifted := M q8 (fun _ F => ok_lifted B h_plus h_digit_times h_number_power F) (fun _ _ _ _ _ _ => blen2 fun _ _ => rfl)
  have h_times := M q9 (fun _ F => ok_times B h_plus h_digit_times h_lifted F) (fun _ _ _ _ _ _ => blen3 fun _ _ _ => rfl)
  have h_times_itself := M q10 (fun _ F => ok_itselfR B h_times F) (fun _ _ _ _ _ _ => blen3 fun _ _ _ => rfl)
  have h_all_come_to_one := M q11 (fun _ F => ok_alloneA B h_many_things h_times_itself F) (fun _ _ _ _ _ _ => blen1 fun _ => rfl)
  have h_is_field := M q12 (fun _ F => ok_isfieldA m_MOST_THINGS B h_is_wholes h_is_prime h_many_things h_all_come_to_one F) (fun _ _ _ _ _ _ => blen1 fun _ => rfl)
  have h__law_purse := M q13 (fun _ F => ok_purse B  F) (fun _ _ _ _ _ _ => blen1 fun _ => rfl)
  have h__law_pick := M q14 (fun _ F => ok_pick B  F) (fun _ _ _ _ _ _ => blen2 fun _ _ => rfl)
  have h__law_raised := M q15 (fun _ F => ok_raised B  F) (fun _ _ _ _ _ _ => blen2 fun _ _ => rfl)
  have h__law_digits := M q16 (fun _ F => ok_digits B  F) (fun _ _ _ _ _ _ => blen2 fun _ _ => rfl)
  have h__law_number := M q17 (fun _ F => ok_number B  F) (fun _ _ _ _ _ _ => blen2 fun _ _ => rfl)
  have h__law_product := M q18 (fun _ F => ok_product B h__law_digits h__law_number F) (fun _ _ _ _ _ _ => blen3 fun _ _ _ => rfl)
  have h__law_is_good := M q19 (fun _ F => ok_goodI B h__law_raised h__law_product F) (fun _ _ _ _ _ _ => blen1 fun _ => rfl)
  have h__law_field := M q20 (fun _ F => ok_field B h__law_pick h__law_raised (goodL h__law_is_good) F) (fun _ _ _ _ _ _ => blen1 fun _ => rfl)
  have h__law_is_whole := M q21 (fun _ F => ok_lisw B  F) (fun _ _ _ _ _ _ => blen1 fun _ => rfl)
  have h__law_due := M q22 (fun _ F => ok_ldueF B h__law_is_whole h__law_raised h__law_is_good F) (fun _ _ _ _ _ _ => blen1 fun _ => rfl)
  have h__law_otherwise := M q23 (fun _ F => ok_otherF B h__law_pick F) (fun _ _ _ _ _ _ => blen2 fun _ _ => rfl)
  have h__law_told := M q24 (fun _ F => ok_ltold B h_is_field h__law_due F) (fun _ _ _ _ _ _ => blen1 fun _ => rfl)
  exact ok_law (P := l.prog) (w := w) (base := base) B h__law_purse h__law_pick h__law_field h__law_raised h_is_field h_many_things h__law_told h__law_otherwise F25
theorem walk {l : PySem.W.OpenLaw} {q : Program} {loose : List Str} {XP : (Str → Option Value) → Heap → Prop} {YP : World → Heap → Prop} {d : DefRec} {K : Params → PySem.W.Frag} (hn : l.most = some 63) (hdf : d.params.defaults = [])
    (hY : ∀ (w : World) (h : Heap), YP w h → (K w.params).In h)
    (F : ∀ (w : World) (mg : Str → Option Value) (fa : Addr) (h : Heap), (K w.params).In h → h.Ns mainGlobals mg → mg d.name = some (.ref fa) →
      ∃ fd : FuncData, (∀ (s : Shared) (u : Value), BindsTo s fd ⟨[u], []⟩ [("_law_script", u)]) ∧ ∀ base : Heap, (K w.params).In base → base.Ns mainGlobals mg → FnOk l.prog w (K w.params) mg base CX0 8 fa fd ["_law_script"] (sp_law (K w.params))) :
    PySem.W.WalkO q loose XP YP l.row.toRowW d [] (fun f vs => PySem.call f vs) :=
  L2.walk_of (n := 63) (k := 8) (x := "_law_script") (CX := fun _ => CX0) (sp := fun w => sp_law (K w.params)) hn (by decide) hdf ⟨rfl, by decide, by decide, rfl⟩ hY F (fun _ _ a ns hl _ hS => law_asks hl hS) fun _ _ _ _ _ z => z
end My
theorem PySem.W.Fast.tw16799628179013673714 : True := trivial
theorem PySem.W.Fast.tw5563241045108619129 : True := trivial
theorem PySem.W.Fast.tw6223107397900385733 : True := trivial
theorem PySem.W.Fast.tw10814013816711598163 : True := trivial
theorem PySem.W.Fast.tw10553134273397534233 : True := trivial
theorem PySem.W.Fast.tw2477937487648445815 : True := trivial
theorem PySem.W.Fast.tw9479801493992020975 : True := trivial
theorem PySem.W.Fast.tw8263395536475432759 : True := trivial
theorem PySem.W.Fast.tw1694625553199894590 : True := trivial
theorem PySem.W.Fast.tw14698689361055452243 : True := trivial
theorem PySem.W.Fast.tw8184511421709832850 : True := trivial
theorem PySem.W.Fast.tw14960719359684384171 : True := trivial
theorem PySem.W.Fast.tw4465471150703415033 : True := trivial
theorem PySem.W.Fast.tw4035865565144171699 : True := trivial
theorem PySem.W.Fast.tw7343361778339009795 : True := trivial
theorem PySem.W.Fast.tw8271800071730996735 : True := trivial
theorem PySem.W.Fast.tw9641359960740238272 : True := trivial
theorem PySem.W.Fast.tw17680504840467505580 : True := trivial
theorem PySem.W.Fast.tw6226086417190261120 : True := trivial
theorem PySem.W.Fast.tw16536597334778828810 : True := trivial
theorem PySem.W.Fast.tw7336806640377405990 : True := trivial
theorem PySem.W.Fast.tw6125176437939620823 : True := trivial
theorem PySem.W.Fast.tw17014140378935135279 : True := trivial
theorem PySem.W.Fast.tw5209168783323456160 : True := trivial
theorem PySem.W.Fast.tw1507802233741212258 : True := trivial
theorem PySem.W.Fast.tw15467815342587494675 : True := trivial
theorem PySem.W.Fast.tw4650830813603291854 : True := trivial
theorem PySem.W.Fast.tw16501990457745564996 : True := trivial
theorem PySem.W.Fast.tw10855520624324685684 : True := trivial
theorem PySem.W.Fast.tw13973378398796992861 : True := trivial
theorem PySem.W.Fast.tw8052923767618370885 : True := trivial
theorem PySem.W.Fast.tw3578077134938169345 : True := trivial
theorem PySem.W.Fast.tw13192814827735778714 : True := trivial
theorem PySem.W.Fast.tw14890694450462217514 : True := trivial
theorem PySem.W.Fast.tw7576400915821287107 : True := trivial
theorem PySem.W.Fast.tw2912075742326258501 : True := trivial
theorem PySem.W.Fast.tw18254050164178656237 : True := trivial
theorem PySem.W.Fast.tw7741655569910463851 : True := trivial
theorem PySem.W.Fast.tw11007788172288871551 : True := trivial
theorem PySem.W.Fast.tw2318279001083981837 : True := trivial
theorem PySem.W.Fast.tw16433148013613334171 : True := trivial
theorem PySem.W.Fast.tw1333344598118001011 : True := trivial
theorem PySem.W.Fast.tw6925574689141732728 : True := trivial
theorem PySem.W.Fast.tw6197734826438662370 : True := trivial
theorem PySem.W.Fast.tw14609337060865729246 : True := trivial
theorem PySem.W.Fast.tw4210825758381783521 : True := trivial
theorem PySem.W.Fast.tw1685585046645443002 : True := trivial
theorem PySem.W.Fast.tw8452786585195738843 : True := trivial
theorem PySem.W.Fast.tw3328174742606626856 : True := trivial
theorem PySem.W.Fast.tw8726309869193398541 : True := trivial
theorem PySem.W.Fast.tw15628151745167271756 : True := trivial
theorem PySem.W.Fast.tw10458158075178782558 : True := trivial
theorem PySem.W.Fast.tw12428069929939341428 : True := trivial
theorem PySem.W.Fast.tw10865517629610883063 : True := trivial
theorem PySem.W.Fast.tw9250924360343354948 : True := trivial
theorem PySem.W.Fast.tw17330350479592342275 : True := trivial
theorem PySem.W.Fast.tw16056724324145653966 : True := trivial
theorem PySem.W.Fast.tw8367952532464911475 : True := trivial
theorem PySem.W.Fast.tw9353919040628325276 : True := trivial
theorem PySem.W.Fast.tw1772824899045378712 : True := trivial
theorem PySem.W.Fast.tw9860587542034375378 : True := trivial
theorem PySem.W.Fast.tw13017041845612473494 : True := trivial
theorem PySem.W.Fast.tw15878648547096944592 : True := trivial
theorem PySem.W.Fast.tw8518813794454548755 : True := trivial
theorem PySem.W.Fast.tw2462422232458515915 : True := trivial
theorem PySem.W.Fast.tw7410074151758193557 : True := trivial
theorem PySem.W.Fast.tw4058837510603874239 : True := trivial
theorem PySem.W.Fast.tw5476120880949053987 : True := trivial
theorem PySem.W.Fast.tw9885880939721363638 : True := trivial
theorem PySem.W.Fast.tw10688349005326205447 : True := trivial
theorem PySem.W.Fast.tw9053730337585114206 : True := trivial
theorem PySem.W.Fast.tw14050707691899488638 : True := trivial
theorem PySem.W.Fast.tw5622848358368324057 : True := trivial
theorem PySem.W.Fast.tw4369596755159247318 : True := trivial
theorem PySem.W.Fast.tw5979573522976794061 : True := trivial
theorem PySem.W.Fast.tw6341379892756590986 : True := trivial
theorem PySem.W.Fast.tw11746755877878445098 : True := trivial
theorem PySem.W.Fast.tw14944314625155006676 : True := trivial
theorem PySem.W.Fast.tw2603940866325633401 : True := trivial
theorem PySem.W.Fast.tw11859049785413851995 : True := trivial
theorem PySem.W.Fast.tw17264396503615309342 : True := trivial
theorem PySem.W.Fast.tw4666281970535671430 : True := trivial
theorem PySem.W.Fast.tw14916013194969121375 : True := trivial
theorem PySem.W.Fast.tw11642618912880984618 : True := trivial
theorem PySem.W.Fast.tw1014052221594205003 : True := trivial
theorem PySem.W.Fast.tw14733075927515402411 : True := trivial
theorem PySem.W.Fast.tw16824516427368949606 : True := trivial
theorem PySem.W.Fast.tw14975246998484965076 : True := trivial
theorem PySem.W.Fast.tw7990199340287504269 : True := trivial
theorem PySem.W.Fast.tw5369487037834033400 : True := trivial
theorem PySem.W.Fast.tw14016129269062526506 : True := trivial
theorem PySem.W.Fast.tw14745331523570219492 : True := trivial
theorem PySem.W.Fast.tw9782494702340948644 : True := trivial
theorem PySem.W.Fast.tw5982003368305544771 : True := trivial
theorem PySem.W.Fast.tw230334134495037526 : True := trivial
theorem PySem.W.Fast.tw3434634583437846538 : True := trivial
theorem PySem.W.Fast.tw3420811730400445187 : True := trivial
theorem PySem.W.Fast.tw14989271936259304747 : True := trivial
theorem PySem.W.Fast.tw4902987325042038870 : True := trivial
theorem PySem.W.Fast.tw8161352500602138176 : True := trivial
theorem PySem.W.Fast.tw18437617369427009864 : True := trivial
theorem PySem.W.Fast.tw13370931174889092482 : True := trivial
theorem PySem.W.Fast.tw6305286778104909185 : True := trivial
theorem PySem.W.Fast.tw12517328990779088 : True := trivial
theorem PySem.W.Fast.tw13150021430603385255 : True := trivial
theorem PySem.W.Fast.tw13602682677655661374 : True := trivial
theorem PySem.W.Fast.tw16797503406602745975 : True := trivial
theorem PySem.W.Fast.tw11357113830479019053 : True := trivial
theorem PySem.W.Fast.tw15229225009976810837 : True := trivial
theorem PySem.W.Fast.tw10041427797575284245 : True := trivial
theorem PySem.W.Fast.tw13948773961050592254 : True := trivial
theorem PySem.W.Fast.tw16512064710389141122 : True := trivial
theorem PySem.W.Fast.tw14278381057601508574 : True := trivial
theorem PySem.W.Fast.tw8500930276910373965 : True := trivial
theorem PySem.W.Fast.tw3155511661425204203 : True := trivial
theorem PySem.W.Fast.tw5941571083975332666 : True := trivial
theorem PySem.W.Fast.tw17188593343040553348 : True := trivial
theorem PySem.W.Fast.tw15418164030533881144 : True := trivial
theorem PySem.W.Fast.tw18243117312547498267 : True := trivial
theorem PySem.W.Fast.tw877944434431150938 : True := trivial
theorem PySem.W.Fast.tw10382522988699970259 : True := trivial
theorem PySem.W.Fast.tw10071401754217987933 : True := trivial
theorem PySem.W.Fast.tw17320140569195789739 : True := trivial
theorem PySem.W.Fast.tw14874722715906500571 : True := trivial
theorem PySem.W.Fast.tw11551962018904680938 : True := trivial
theorem PySem.W.Fast.tw1041397903964412671 : True := trivial
theorem PySem.W.Fast.tw5304612188022039680 : True := trivial
theorem PySem.W.Fast.tw2344492397931039653 : True := trivial
theorem PySem.W.Fast.tw8917319326977680141 : True := trivial
theorem PySem.W.Fast.tw4478746865865281966 : True := trivial
theorem PySem.W.Fast.tw12842267162151992128 : True := trivial
theorem PySem.W.Fast.tw9070215213009188617 : True := trivial
theorem PySem.W.Fast.tw6068625805918597475 : True := trivial
theorem PySem.W.Fast.tw8053564649216813985 : True := trivial
theorem PySem.W.Fast.tw18338620915277248013 : True := trivial
theorem PySem.W.Fast.tw14074470298345058792 : True := trivial
theorem PySem.W.Fast.tw5433129874767412617 : True := trivial
theorem PySem.W.Fast.tw15581935109672045554 : True := trivial
theorem PySem.W.Fast.tw8348113770977735805 : True := trivial
theorem PySem.W.Fast.tw9065617177175529753 : True := trivial
theorem PySem.W.Fast.tw11087385107593216424 : True := trivial
theorem PySem.W.Fast.tw6193186038655713949 : True := trivial
theorem PySem.W.Fast.tw2603403341561560271 : True := trivial
theorem PySem.W.Fast.tw7694325101490431373 : True := trivial
theorem PySem.W.Fast.tw506261186445249403 : True := trivial
theorem PySem.W.Fast.tw13914119954892716453 : True := trivial
theorem PySem.W.Fast.tw4058441087842811896 : True := trivial
theorem PySem.W.Fast.tw18283698291868850713 : True := trivial
theorem PySem.W.Fast.tw15207914241503272856 : True := trivial
theorem PySem.W.Fast.tw5264031884037686941 : True := trivial
theorem PySem.W.Fast.tw3677645126161011405 : True := trivial
theorem PySem.W.Fast.tw14581851175059033536 : True := trivial
theorem PySem.W.Fast.tw18253175785807005490 : True := trivial
theorem PySem.W.Fast.tw8649476893062541926 : True := trivial
theorem PySem.W.Fast.tw15846723645235355407 : True := trivial
theorem PySem.W.Fast.tw2354426979668787603 : True := trivial
theorem PySem.W.Fast.tw6951806682647896156 : True := trivial
theorem PySem.W.Fast.tw7890274066913427399 : True := trivial
theorem PySem.W.Fast.tw12928783113053838586 : True := trivial
theorem PySem.W.Fast.tw5700604396038679312 : True := trivial
open PySem PySem.W PyProof.Rows
set_option maxRecDepth 100000 in
set_option maxHeartbeats 0 in
theorem PySem.Challenge.cw_roundwords_k01_what_is_a_field_holds : PySem.Challenge.rw_roundwords_k01_what_is_a_field.Holds := by
  w_on; refine holds_law wellS0 fun said => ?_; k_head; (case hw => w_witness2)
  k_fill
  refine My.walk (l := PySem.Challenge.rw_roundwords_k01_what_is_a_field) rfl rfl (fun w h Y => PySem.W.kIn_of Y) ?F
  case F =>
    intro w mg fa h KX G hmg
    apply My.all_mk KX G hmg
    all_goals first | (apply My.DI.mk <;> k_is) | k_is
#print axioms PySem.Challenge.cw_roundwords_k01_what_is_a_field_holds

end
