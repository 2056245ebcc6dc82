import PyProof.Rows.All
import Wide.All
import OpenK.AllK
import Wide.FinOn
import Lean
import PyProof.EqAt
import PyProof.EqKinds
import PyProof.TupleCall
import KE.KUnpack
import PyProof.ListRange
import PyProof.TupleOfGen
import PyProof.NeKinds
import KE.KRevIter
import PyProof.FactsAll.range_2
import PyProof.Rows.ReprOcc
import KE.KTryMore
import PyProof.IsRules
import PyProof.IsInstanceH
import PyProof.ReprRoads
import PyProof.CallStr
import PyProof.StrWalks
import PyProof.StrCalls2
import PyProof.Rows.StrNews
import PyProof.Rows.StrRules
import PyProof.StrOps2
import PyProof.CollectIter
import KE.KIntText
import PySem.Challenge.RW_roundwords_k70_written
set_option hygiene false in
local macro_rules | `($a>=>$b) => `(@pa_cons _ _ _ _ _ $a $b (by rfl))
set_option hygiene false in
local macro_rules | `($a<=<$b) => `(@pss_cons _ _ _ _ _ $a $b)
set_option hygiene false in
local macro_rules | `(~~~$a) => `(@pss_one _ _ _ $a)
set_option hygiene false in
local macro_rules | `($a<$>$b) => `(@pe_callH _ _ _ _ _ _ _ _ _ _ _ $a hr (by decide) rfl $b (by decide) (by rfl) (by rfl))
set_option hygiene false in
local macro_rules | `($a|||$b|||$c) => `(@pe_op _ _ _ _ _ _ _ _ $a $b $c)
set_option hygiene false in
local macro_rules | `($a&&&$b) => `(@pg_name _ _ $a _ $b rfl (by first | exact .inl rfl | exact .inr rfl | assumption) (by first | exact .inl rfl | exact .inr rfl | assumption))
set_option hygiene false in
local macro_rules | `($a<|>$b<|>$c) => `(@ps_set _ _ $a _ _ _ _ $b rfl (by first | exact .inl rfl | exact .inr rfl | assumption) $c (by rfl) (by first | exact .inl rfl | exact .inr rfl | assumption))
set_option hygiene false in
local macro_rules | `($a<<<$b<<<$c) => `(@pe_ix _ _ _ _ _ _ _ $a $b $c (fun _ _ => rfl))
set_option hygiene false in
local macro_rules | `($a⁻¹) => `(@ps_ret _ _ _ _ $a)
set_option hygiene false in
local macro_rules | `($a∩$b) => `(@pgs_cons _ _ _ _ _ $a $b (by rfl))
set_option hygiene false in
local macro_rules | `($a∪$b∪$c) => `(@pt_cmpR _ _ _ _ _ _ _ _ $a $b $c (nomark _))
set_option hygiene false in
local macro_rules | `($a>>>($s, $c, $d)) => `(@pe_callB _ _ _ _ _ _ _ _ _ $a rfl (B $s (by decide)) $c $d (by decide) (by decide) (by rfl) (by rfl))
set_option hygiene false in
local macro_rules | `($a<*($s, $c, $d)) => `(@pe_callTy _ _ _ _ _ _ _ _ _ $a rfl (B $s (by decide)) $c $d (by decide) (by decide) (by rfl) (by rfl))
set_option hygiene false in
local macro_rules | `($a*>($b, $c)) => `(@ps_if _ _ _ _ _ _ _ _ $a $b $c)
set_option hygiene false in
local macro_rules | `($a<&>($b, $c)) => `(@ps_for _ _ _ _ _ _ _ _ PassesOwn.never rfl $a $b $c (by intro _; rfl))
set_option hygiene false in
local macro_rules | `($a≈$b) => `(@ps_asg _ _ _ _ _ _ $a (@pg_tup _ _ _ _ _ _ rfl $b (by rfl) (by rfl)) (by rfl) (by rfl) (by rfl))
set_option hygiene false in
local macro_rules | `($s⊂$b) => `(@pe_bltn _ _ _ _ _ rfl (B $s (by decide)) $b (id (α := RelV (.ty $s) (.type $s)) rfl) (by decide) (by decide))
set_option hygiene false in
local macro_rules | `($a⊃$b) => `(@pe_dget _ _ _ _ _ _ (hu_of hr) $a $b (fun _ _ => rfl))
set_option hygiene false in
local macro_rules | `(↑$a) => `(@pi_range1 _ _ _ _ _ _ rfl (B "range" (by decide)) $a (by rfl))
set_option hygiene false in
local macro_rules | `($a⊆($b, $c, $d, $e, $f, $g, $h, $i)) => `(@pe_lcomp _ _ _ _ _ _ _ $a $b $c _ _ _ _ (id (α := CSc $d (defScope $e) $a $b $c _) ⟨by rfl, by decide +kernel, by decide +kernel, by decide +kernel, by decide +kernel, by rfl, by decide +kernel⟩) rfl $f (fun cl C fp s H => $g) (fun _ _ _ _ _ => $h) (fun _ _ _ _ _ => $i) (by intro _; rfl))
set_option hygiene false in
local macro_rules | `($a⊇$b) => `(@pg_name _ _ $a _ (by show List.Nodup ($b : List Str); decide +kernel) rfl (by first | exact .inl rfl | exact .inr rfl | assumption) (by first | exact .inl rfl | exact .inr rfl | assumption))
theorem wellS0:PySem.Challenge.rw_roundwords_k70_written.wellSaid=true:=by decide +kernel
section
set_option Elab.async false
set_option linter.all false
set_option maxRecDepth 100000
/-! THE HAND LAYER, for ints, bools, texts, own classes, LISTS and tuples (index, slices, in, append, pop ..), calls, loops. Paste it whole ahead of your own text; what your proof does not reach may be deleted. -/
namespace L2
inductive Ex2 (p : a0 → a1 → Prop) : Prop | mk x0 x1 (h : p x0 x1) : Ex2 p
inductive Ex3 (p : a0 → a1 → a2 → Prop) : Prop | mk x0 x1 x2 (h : p x0 x1 x2) : Ex3 p
inductive Ex4 (p : a0 → a1 → a2 → a3 → Prop) : Prop | mk x0 x1 x2 x3 (h : p x0 x1 x2 x3) : Ex4 p
inductive Ex5 (p : a0 → a1 → a2 → a3 → a4 → Prop) : Prop | mk x0 x1 x2 x3 x4 (h : p x0 x1 x2 x3 x4) : Ex5 p
inductive Ex6 (p : a0 → a1 → a2 → a3 → a4 → a5 → Prop) : Prop | mk x0 x1 x2 x3 x4 x5 (h : p x0 x1 x2 x3 x4 x5) : Ex6 p
inductive Ex9 (p : a0 → a1 → a2 → a3 → a4 → a5 → a6 → a7 → a8 → Prop) : Prop | mk x0 x1 x2 x3 x4 x5 x6 x7 x8 (h : p x0 x1 x2 x3 x4 x5 x6 x7 x8) : Ex9 p
end L2
open L2
namespace L2
open PySem PySem.Spec PyProof.Rows

/-- a key: an int or a str -/
noncomputable abbrev Key := Sum Int Str
noncomputable def keyIs : Key → Value → Bool
  | .inl k, v => Value.isInt k v
  | .inr x, v => Value.isStrOf x v
noncomputable def keyH (w : World) : Key → Int
  | .inl k => hashInt k
  | .inr x => hashStr w x
theorem keyIs_shape : ∀ {k : Key} {v : Value}, keyIs k v = true → (Ex2 fun i t => k = Sum.inl i ∧ v = Value.int i t) ∨ (Ex2 fun x t => k = Sum.inr x ∧ v = Value.str x t)
  | .inl i, v, h => by
    obtain ⟨t, e⟩ := Value.isInt_shape (k := i) (v := v) h
    exact .inl ⟨i, t, rfl, e⟩
  | .inr x, v, h => by
    obtain ⟨t, e⟩ := Value.isStrOf_shape (x := x) (v := v) h
    exact .inr ⟨x, t, rfl, e⟩
theorem keyIs_int (i : Int) (t : Tok) : keyIs (.inl i) (.int i t) = true := by simp [keyIs, Value.isInt]
theorem keyIs_str (x : Str) (t : Tok) : keyIs (.inr x) (.str x t) = true := by simp [keyIs, Value.isStrOf]
theorem key_ll (a b : Int) : decide ((Sum.inl a : Key) = Sum.inl b) = (a == b) := by
  by_cases e : a = b
  · subst e; simp
  · have h : ¬ (Sum.inl a : Key) = Sum.inl b := fun q => e (Sum.inl.inj q)
    rw [decide_eq_false h]
    exact (beq_eq_false_iff_ne.mpr e).symm
theorem key_rr (a b : Str) : decide ((Sum.inr a : Key) = Sum.inr b) = decide (a = b) := by
  by_cases e : a = b
  · subst e; simp
  · have h : ¬ (Sum.inr a : Key) = Sum.inr b := fun q => e (Sum.inr.inj q)
    rw [decide_eq_false h, decide_eq_false e]
theorem key_lr (a : Int) (b : Str) : decide ((Sum.inl a : Key) = Sum.inr b) = false := decide_eq_false (fun q => nomatch q)
theorem key_rl (a : Str) (b : Int) : decide ((Sum.inr a : Key) = Sum.inl b) = false := decide_eq_false (fun q => nomatch q)

noncomputable def mixKind (prog : Program) (w : World) : PySem.KeyKind prog w Key where
  is := keyIs
  hash := keyH w
  inj := fun v a b ha hb => by
    rcases keyIs_shape ha with ⟨i, t, rfl, rfl⟩ | ⟨x, t, rfl, rfl⟩
    · rcases keyIs_shape hb with ⟨j, u, rfl, e⟩ | ⟨y, u, rfl, e⟩
      · injection e with e1 _; rw [e1]
      · exact nomatch e
    · rcases keyIs_shape hb with ⟨j, u, rfl, e⟩ | ⟨y, u, rfl, e⟩
      · exact nomatch e
      · injection e with e1 _; rw [e1]
  byValue := fun k v h => by
    rcases keyIs_shape h with ⟨i, t, rfl, rfl⟩ | ⟨x, t, rfl, rfl⟩ <;> rfl
  pyHash := fun hv h => by
    rcases keyIs_shape hv with ⟨i, t, rfl, rfl⟩ | ⟨x, t, rfl, rfl⟩
    · exact wpAny_pyHash_int h
    · exact wpAny_pyHash_str h
  eqBool := fun hu hv h => by
    rcases keyIs_shape hu with ⟨i, t, rfl, rfl⟩ | ⟨x, t, rfl, rfl⟩
    · rcases keyIs_shape hv with ⟨j, u, rfl, rfl⟩ | ⟨y, u, rfl, rfl⟩
      · rw [key_ll] at h; exact wpAny_eqBool_int h
      · rw [key_lr] at h; exact SeqAt.EqAt.int_str i t y u _ _ _ _ h
    · rcases keyIs_shape hv with ⟨j, u, rfl, rfl⟩ | ⟨y, u, rfl, rfl⟩
      · rw [key_rl] at h; exact SeqAt.EqAt.str_int x t j u _ _ _ _ h
      · rw [key_rr] at h; exact wpAny_eqBool_str h
  «strs» := fun k x t v h => by
    rcases keyIs_shape h with ⟨i, u, rfl, e⟩ | ⟨y, u, rfl, e⟩
    · exact nomatch e
    · injection e with e1 _
      subst e1
      cases v <;> rfl

theorem mixKind_int (prog : Program) (w : World) (i : Int) (t : Tok) : (mixKind prog w).is (.inl i) (.int i t) = true := keyIs_int i t
theorem mixKind_str (prog : Program) (w : World) (x : Str) (t : Tok) : (mixKind prog w).is (.inr x) (.str x t) = true := keyIs_str x t
end L2

namespace L2
open PySem PySem.Spec PyProof.Rows

/-- a value, without the heap -/
inductive V where
  | non | bl (b : Bool) | int (i : Int) | str (x : Str) | byt (b : Array UInt8) | flt (b : UInt64) | ref (a : Addr) | ty (n : String)
  deriving DecidableEq

noncomputable def RelV : V → Value → Prop
  | .non, u => u = Value.none
  | .bl b, u => u = Value.bool b
  | .int i, u => ∃ t, u = Value.int i t
  | .str x, u => ∃ t, u = Value.str x t
  | .byt b, u => ∃ t, u = Value.bytes b t
  | .flt b, u => ∃ t, u = Value.float b t
  | .ref a, u => u = Value.ref a
  | .ty n, u => u = Value.type n

noncomputable abbrev Vals : List V → List Value → Prop := Paired RelV
theorem Vals.length {xs : List V} {us : List Value} (r : Vals xs us) : xs.length = us.length := Paired.length r
theorem Vals.get : ∀ {xs : List V} {us : List Value} {i : Nat} {x : V}, Vals xs us → xs[i]? = some x → ∃ u, us[i]? = some u ∧ RelV x u
  | _, _, _, _, .nil, e => by simp at e
  | _, _, 0, _, .cons r _, e => by simp at e; subst e; exact ⟨_, rfl, r⟩
  | _, _, i + 1, x, .cons _ t, e => by
    obtain ⟨u, h1, h2⟩ := Vals.get (i := i) (x := x) t (by simpa using e)
    exact ⟨u, by simpa using h1, h2⟩
theorem Vals.set {x : V} {u : Value} (r : RelV x u) : ∀ {xs : List V} {us : List Value} (i : Nat), Vals xs us → Vals (xs.set i x) (us.set i u)
  | _, _, _, .nil => .nil
  | _, _, 0, .cons _ t => .cons r t
  | _, _, i + 1, .cons q t => .cons q (Vals.set r i t)
theorem Vals.append : ∀ {xs ys : List V} {us ws : List Value}, Vals xs us → Vals ys ws → Vals (xs ++ ys) (us ++ ws)
  | _, _, _, _, .nil, s => s
  | _, _, _, _, .cons r t, s => .cons r (Vals.append t s)
theorem Vals.take : ∀ {xs : List V} {us : List Value} (n : Nat), Vals xs us → Vals (xs.take n) (us.take n)
  | _, _, 0, _ => .nil
  | _, _, _ + 1, .nil => .nil
  | _, _, n + 1, .cons r t => .cons r (Vals.take n t)
theorem Vals.drop : ∀ {xs : List V} {us : List Value} (n : Nat), Vals xs us → Vals (xs.drop n) (us.drop n)
  | _, _, 0, r => r
  | _, _, _ + 1, .nil => .nil
  | _, _, n + 1, .cons _ t => Vals.drop n t

noncomputable def RelO : Option V → Option Value → Prop
  | some v, some u => RelV v u
  | none, none => True
  | _, _ => False
noncomputable def KV {κ : Type} : List (κ × V) → List (κ × Value) → Prop := Paired fun (p : κ × V) (q : κ × Value) => p.1 = q.1 ∧ RelV p.2 q.2

/-- a key of a dict (00_mix): an int or a text -/
noncomputable def kV : Key → V
  | .inl i => .int i
  | .inr x => .str x

/-- what stands at a tracked address -/
inductive HO where
  /-- a list -/
  | lst (xs : List V)
  /-- a tuple (never changes) -/
  | tup (xs : List V)
  /-- a dict whose keys are ints and texts; one whose keys are tuples of ints and texts (the empty one is both) -/
  | dK (kvs : List (Key × V)) | dT (kvs : List (List Key × V))
  /-- a set of ints: its members, its size -/
  | set (S : Int → Bool) (n : Nat)
  /-- an instance of the class at C, its dict at dx, its attributes -/
  | ins (C dx : Addr) (fs : List (Str × V))
  /-- the dict of the instance at x -/
  | own (x : Addr)
  /-- the dict of an exception -/
  | xd (fs : List (Str × V))
  /-- a bound method, f of x -/
  | met (f x : Addr)
  /-- a range object lo, lo + 1, .. below hi -/
  | rng (lo hi : Int)
  /-- a thing that is known to the object (the script; a dict while a loop walks it): read, never written while it is so -/
  | frz (o : Obj) (u : HO)
  /-- a code object's table -/
  | tbl (ps : Array Value)
  /-- any other thing, by what is true of its one object (a def of one's own: SetO a S n := HO.ext fun h => ..) -/
  | ext (φ : Heap → Prop)

noncomputable abbrev Hp := Addr → Option HO
noncomputable def upd (H : Hp) (a : Addr) (o : HO) : Hp := fun b => if b = a then some o else H b
theorem upd_same {H : Hp} {a : Addr} {o : HO} : upd H a o a = some o := by unfold upd; rw [if_pos rfl]
theorem upd_ne {H : Hp} {a b : Addr} {o : HO} (h : b ≠ a) : upd H a o b = H b := by unfold upd; rw [if_neg h]
theorem upd_upd {H : Hp} {a : Addr} {o u : HO} : upd (upd H a o) a u = upd H a u := by
  funext b; unfold upd; split <;> rfl
theorem ne_of_none {H : Hp} {a b : Addr} {o : HO} (h : H a = some o) (h' : H b = none) : a ≠ b := by
  intro e; subst e; rw [h] at h'; cases h'

section
variable (P : Program) (w : World)
noncomputable def ObjOk (H : Hp) (h : Heap) (a : Addr) : HO → Prop
  | .lst xs => xs.length ≤ sizeLine ∧ Ex2 fun (its : List Value) (n : Nat) => Vals xs its ∧ h.get? a = some { cls := .type "list", data := .seq its.toArray n }
  | .tup xs => xs.length ≤ sizeLine ∧ ∃ its : List Value, Vals xs its ∧ IsTup h a its.toArray
  | .dK kvs => kvs.length ≤ sizeLine ∧ (a == sysModules) = false ∧ ∃ vs, KV kvs vs ∧ h.DictOf (mixKind P w) a vs
  | .dT kvs => kvs.length ≤ sizeLine ∧ (a == sysModules) = false ∧ ∃ xs : List (List Key × Addr × Value),
      Paired (fun (p : List Key × V) (q : List Key × Addr × Value) => p.1 = q.1 ∧ H q.2.1 = some (.tup (p.1.map kV)) ∧ RelV p.2 q.2.2) kvs xs ∧
      Ex3 fun o es ep => h.get? a = some o ∧ o.ExactDict ∧ o.data = .dict es ep ∧ es.toList = xs.map (entryOfKey (tupleKind (mixKind P w))) ∧ (xs.map (·.1)).Nodup
  | .set S n => h.SetOf (intKind P w) a S n
  | .ins C dx fs => H dx = some (.own a) ∧ fs.length ≤ 1000 ∧ dx ≠ a ∧ h.get? a = some (PySem.W.instObj C dx) ∧
      ∃ mA, h.Ns1 dx mA ∧ (∀ f, RelO (fs.lookup f) (mA f)) ∧ PySem.Within mA (fs.map (·.1))
  | .own _ => ∃ o, h.get? a = some o
  | .xd fs => ∃ mA, h.Ns1 a mA ∧ ∀ f, RelO (fs.lookup f) (mA f)
  | .rng lo hi => Ex3 fun t u v => h.get? a = some { cls := .type "range", data := .fields #[.int lo t, .int hi u, .int 1 v] }
  | .frz o u => h.get? a = some o ∧ ObjOk H h a u
  | .tbl ps => h.get? a = some { cls := .none, data := .fields ps }
  | .met f x => h.get? a = some (PySem.W.methodObj (.ref f) (.ref x))
  | .ext φ => φ h ∧ (∃ o, h.get? a = some o) ∧ ∀ h1 h2 : Heap, φ h1 → (∀ o, h1.get? a = some o → h2.get? a = some o) → φ h2
/-- the abstract heap is held -/
noncomputable def HOk (H : Hp) (h : Heap) : Prop := ∀ a o, H a = some o → ObjOk P w H h a o
end

section
variable {P : Program} {w : World} {H H' : Hp} {h h' : Heap} {a : Addr} {o : HO}
theorem ObjOk.lt (x : ObjOk P w H h a o) : a < h.objs.size := by
  cases o with
  | lst xs => obtain ⟨_, _, _, _, e⟩ := x; exact Heap.lt_size e
  | tup xs => obtain ⟨_, _, _, p⟩ := x; exact p.lt
  | dK kvs => obtain ⟨_, _, _, _, o, _, _, e, _⟩ := x; exact Heap.lt_size e
  | dT kvs => obtain ⟨_, _, _, _, o, _, _, e, _⟩ := x; exact Heap.lt_size e
  | set S n => obtain ⟨o, _, _, _, e, _⟩ := x; exact Heap.lt_size e
  | ins C dx fs => obtain ⟨_, _, _, e, _⟩ := x; exact Heap.lt_size e
  | own y => obtain ⟨_, e⟩ := x; exact Heap.lt_size e
  | xd fs => obtain ⟨_, ⟨_, _, _, e, _⟩, _⟩ := x; exact Heap.lt_size e
  | rng lo hi => obtain ⟨_, _, _, e⟩ := x; exact Heap.lt_size e
  | frz ob u => obtain ⟨e, _⟩ := x; exact Heap.lt_size e
  | tbl ps => exact Heap.lt_size (show h.get? a = some _ from x)
  | met f y => exact Heap.lt_size (show h.get? a = some _ from x)
  | ext φ => obtain ⟨_, ⟨_, e⟩, _⟩ := x; exact Heap.lt_size e
theorem Paired.mapP {α β : Type} {F G : α → β → Prop} : ∀ {l₁ : List α} {l₂ : List β}, Paired F l₁ l₂ → (∀ a b, F a b → G a b) → Paired G l₁ l₂
  | _, _, .nil, _ => .nil
  | _, _, .cons r t, f => .cons (f _ _ r) (Paired.mapP t f)
/-- what an object's description leans on: its own object, its own dict, the tuples -/
theorem ObjOk.stay (x : ObjOk P w H h a o) (k : ∀ b u, (b = a ∨ H b = some (.own a)) → h.get? b = some u → h'.get? b = some u)
    (ho : ∀ b, H b = some (.own a) → H' b = some (.own a)) (ht : ∀ b xs, H b = some (.tup xs) → H' b = some (.tup xs)) : ObjOk P w H' h' a o := by
  induction o with
  | lst xs => obtain ⟨z, its, n, r, e⟩ := x; exact ⟨z, its, n, r, k _ _ (.inl rfl) e⟩
  | tup xs => obtain ⟨z, its, r, ob, e, c⟩ := x; exact ⟨z, its, r, ob, k _ _ (.inl rfl) e, c⟩
  | dK kvs => obtain ⟨z, y, vs, r, ob, es, ep, e, c⟩ := x; exact ⟨z, y, vs, r, ob, es, ep, k _ _ (.inl rfl) e, c⟩
  | dT kvs =>
    obtain ⟨z, y, xs, r, ob, es, ep, e, c⟩ := x
    exact ⟨z, y, xs, Paired.mapP r fun p q z => ⟨z.1, ht _ _ z.2.1, z.2.2⟩, ob, es, ep, k _ _ (.inl rfl) e, c⟩
  | set S n => obtain ⟨ob, es, ep, t, e, c⟩ := x; exact ⟨ob, es, ep, t, k _ _ (.inl rfl) e, c⟩
  | ins C dx fs =>
    obtain ⟨d, z, ne, e, mA, ⟨od, es, ep, e2, c⟩, r⟩ := x
    exact ⟨ho _ d, z, ne, k _ _ (.inl rfl) e, mA, ⟨od, es, ep, k _ _ (.inr d) e2, c⟩, r⟩
  | own y => obtain ⟨ob, e⟩ := x; exact ⟨ob, k _ _ (.inl rfl) e⟩
  | xd fs => obtain ⟨mA, ⟨od, es, ep, e, c⟩, r⟩ := x; exact ⟨mA, ⟨od, es, ep, k _ _ (.inl rfl) e, c⟩, r⟩
  | rng lo hi => obtain ⟨t, u, v, e⟩ := x; exact ⟨t, u, v, k _ _ (.inl rfl) e⟩
  | frz ob u ih => obtain ⟨e, q⟩ := x; exact ⟨k _ _ (.inl rfl) e, ih q⟩
  | tbl ps =>
    have e : h.get? a = some { cls := .none, data := .fields ps } := x
    show h'.get? a = some { cls := .none, data := .fields ps }
    exact k a _ (.inl rfl) e
  | met f y =>
    have e : h.get? a = some (PySem.W.methodObj (.ref f) (.ref y)) := x
    show h'.get? a = some (PySem.W.methodObj (.ref f) (.ref y))
    exact k a _ (.inl rfl) e
  | ext φ => obtain ⟨p, ⟨o, e⟩, st⟩ := x; exact ⟨st _ _ p fun o q => k _ _ (.inl rfl) q, ⟨o, k _ _ (.inl rfl) e⟩, st⟩
theorem HOk.lt (x : HOk P w H h) (e : H a = some o) : a < h.objs.size := (x a o e).lt
theorem HOk.fresh (x : HOk P w H h) (e : h.objs.size ≤ a) : H a = none := by
  cases q : H a with
  | none => rfl
  | some u => exact absurd (Nat.lt_of_lt_of_le (x.lt q) e) (Nat.lt_irrefl _)
/-- every object of the heap is kept -/
theorem HOk.kept (x : HOk P w H h) (k : ∀ b u, h.get? b = some u → h'.get? b = some u) : HOk P w H h' := fun a o e =>
  (x a o e).stay (fun b u _ q => k b u q) (fun _ q => q) fun _ _ q => q
/-- a new object is laid and tracked -/
theorem HOk.laid (x : HOk P w H h) (k : ∀ b u, h.get? b = some u → h'.get? b = some u) (hp : h.objs.size ≤ a) (new : ObjOk P w (upd H a o) h' a o) : HOk P w (upd H a o) h' := fun b u e => by
  have hn := x.fresh hp
  by_cases hb : b = a
  · subst hb; rw [upd_same] at e; cases e; exact new
  · rw [upd_ne hb] at e
    exact (x b u e).stay (fun c v _ q => k c v q) (fun c q => by rw [upd_ne (ne_of_none q hn)]; exact q) fun c xs q => by rw [upd_ne (ne_of_none q hn)]; exact q
end

/-- what may be read as u: it is u, or a known u -/
noncomputable def Rd (H : Hp) (a : Addr) (u : HO) : Prop := H a = some u ∨ ∃ o, H a = some (.frz o u)
theorem Rd.ok {P : Program} {w : World} {H : Hp} {h : Heap} {a : Addr} {u : HO} (r : Rd H a u) (x : HOk P w H h) : ObjOk P w H h a u := by
  rcases r with r | ⟨o, r⟩
  · exact x a u r
  · obtain ⟨_, q⟩ := x a _ r
    exact q
/-- what may be written -/
noncomputable def Mut : Option HO → Prop
  | some (.lst _) => True
  | some (.dK _) => True
  | some (.dT _) => True
  | some (.set _ _) => True
  | some (.ins _ _ _) => True
  | some (.ext _) => True
  | _ => False
section
variable {P : Program} {w : World} {H : Hp} {h h' : Heap} {x e : Addr} {o' : HO}
/-- the object at e is changed: x itself, or the dict of the instance x -/
theorem HOk.write (ok : HOk P w H h) (mu : Mut (H x)) (he : e = x ∨ H e = some (.own x)) (k : ∀ b u, b ≠ e → h.get? b = some u → h'.get? b = some u) (heo : ∃ u, h'.get? e = some u)
    (new : ObjOk P w (upd H x o') h' x o') : HOk P w (upd H x o') h' := fun b u q => by
  have nown : ∀ c y, H c = some (.own y) → c ≠ x := fun c y r z => by subst z; rw [r] at mu; exact mu
  have ntup : ∀ c xs, H c = some (.tup xs) → c ≠ x := fun c xs r z => by subst z; rw [r] at mu; exact mu
  by_cases hb : b = x
  · subst hb; rw [upd_same] at q; cases q; exact new
  · rw [upd_ne hb] at q
    by_cases hbe : b = e
    · have q' : H b = some (.own x) := by
        rcases he with z | z
        · exact absurd (hbe.trans z) hb
        · rw [hbe]; exact z
      rw [q] at q'; cases q'
      obtain ⟨v, hv⟩ := heo
      exact ⟨v, by rw [hbe]; exact hv⟩
    · refine (ok b u q).stay (fun c v hc r => k c v ?_ r) (fun c r => by rw [upd_ne (nown c b r)]; exact r) fun c xs r => by rw [upd_ne (ntup c xs r)]; exact r
      rcases hc with rfl | hc
      · exact hbe
      · rintro rfl
        rcases he with z | z
        · exact nown c b hc z
        · rw [hc] at z; cases z; exact hb rfl
end

/-! ### kept unless tracked; of the frames at fs (the callers') the slots may change (an exception that passes writes there); of the records at ex (iterators) nothing is said -/
structure Un (fs ex : List Addr) (H H' : Hp) (h h' : Heap) : Prop where
  keep : ∀ b o, h.get? b = some o → H b = none → b ∉ fs → b ∉ ex → h'.get? b = some o
  slot : ∀ b o, h.get? b = some o → H b = none → b ∈ fs → b ∉ ex → ∃ sl, h'.get? b = some { o with slots := sl }
  free : ∀ b o, h.get? b = some o → H b = none → b ∉ ex → H' b = none
  there : ∀ b o, h.get? b = some o → b ∉ ex → ∃ o', h'.get? b = some o'
  tups : ∀ b xs, H b = some (.tup xs) → H' b = some (.tup xs)
  frzs : ∀ b o u, H b = some (.frz o u) → H' b = some (.frz o u)
  tbls : ∀ b ps, H b = some (.tbl ps) → ∃ more, H' b = some (.tbl (ps ++ more))
section
variable {fs fs' ex ex' : List Addr} {H H1 H2 : Hp} {h h1 h2 h' : Heap} {a x e : Addr} {o : HO}
theorem Un.any (u : Un fs ex H H1 h h1) {b : Addr} {ob : Obj} (q : h.get? b = some ob) (n : H b = none) (hx : b ∉ ex) : ∃ sl, h1.get? b = some { ob with slots := sl } := by
  by_cases hb : b ∈ fs
  · exact u.slot b ob q n hb hx
  · exact ⟨ob.slots, u.keep b ob q n hb hx⟩
theorem Un.kept (k : ∀ b u, h.get? b = some u → h'.get? b = some u) : Un fs ex H H h h' :=
  ⟨fun b ob q _ _ _ => k b ob q, fun b ob q _ _ _ => ⟨ob.slots, k b ob q⟩, fun _ _ _ n _ => n, fun b ob q _ => ⟨ob, k b ob q⟩, fun _ _ q => q, fun _ _ _ q => q, fun _ ps q => ⟨#[], by rw [q]; simp⟩⟩
theorem Un.refl : Un fs ex H H h h := Un.kept fun _ _ q => q
theorem Un.laid (k : ∀ b u, h.get? b = some u → h'.get? b = some u) (hp : h.objs.size ≤ a) (hn : H a = none) : Un fs ex H (upd H a o) h h' where
  keep := fun b u q _ _ _ => k b u q
  slot := fun b u q _ _ _ => ⟨u.slots, k b u q⟩
  free := fun b u q n _ => by rw [upd_ne (Nat.ne_of_lt (Nat.lt_of_lt_of_le (Heap.lt_size q) hp))]; exact n
  there := fun b u q _ => ⟨u, k b u q⟩
  tups := fun b xs q => by rw [upd_ne (ne_of_none q hn)]; exact q
  frzs := fun b u xs q => by rw [upd_ne (ne_of_none q hn)]; exact q
  tbls := fun b ps q => ⟨#[], by rw [upd_ne (ne_of_none q hn), q]; simp⟩
theorem Un.write (mu : Mut (H x)) (he : e = x ∨ H e = some (.own x)) (k : ∀ b u, b ≠ e → h.get? b = some u → h'.get? b = some u) (heo : ∃ u, h'.get? e = some u) : Un fs ex H (upd H x o) h h' := by
  have hx : ∀ b, H b = none → b ≠ x := fun b n z => by subst z; rw [n] at mu; exact mu
  have hb : ∀ b, H b = none → b ≠ e := fun b n z => by
    subst z
    rcases he with r | r
    · exact hx b n r
    · rw [n] at r; cases r
  have hm : ∀ b u, H b = some u → ¬ Mut (some u) → b ≠ x := fun b u q nm z => by subst z; rw [q] at mu; exact nm mu
  refine ⟨fun b u q n _ _ => k b u (hb b n) q, fun b u q n _ _ => ⟨u.slots, k b u (hb b n) q⟩, fun b u q n _ => by rw [upd_ne (hx b n)]; exact n, fun b u q _ => ?_,
    fun b xs q => by rw [upd_ne (hm b _ q fun z => z)]; exact q, fun b u xs q => by rw [upd_ne (hm b _ q fun z => z)]; exact q, fun b ps q => ⟨#[], by rw [upd_ne (hm b _ q fun z => z), q]; simp⟩⟩
  by_cases hbe : b = e
  · subst hbe; exact heo
  · exact ⟨u, k b u hbe q⟩
end

/-! ### the heap without what is tracked -/
noncomputable def trk (h : Heap) (H : Hp) : List Addr := (List.range h.objs.size).filter fun a => (H a).isSome
noncomputable def hidT (h : Heap) (H : Hp) : Heap := PySem.W.hideAll h (trk h H)
theorem hidT_size (h : Heap) (H : Hp) : (hidT h H).objs.size = h.objs.size := PySem.W.hideAll_size _ _
theorem hidT_get {h : Heap} {H : Hp} {b : Addr} {o : Obj} (e : h.get? b = some o) (n : H b = none) : (hidT h H).get? b = some o :=
  PySem.W.hideAll_get _ e fun hm => by
    have q : (H b).isSome = true := (List.mem_filter.mp hm).2
    rw [n] at q; simp at q
theorem of_hidT {h : Heap} {H : Hp} {b : Addr} {o : Obj} (e : (hidT h H).get? b = some o) : h.get? b = some o ∧ H b = none := by
  have e' : h.get? b = some o := PySem.W.of_hideAll (trk h H) e
  refine ⟨e', ?_⟩
  cases q : H b with
  | none => rfl
  | some x =>
    have hm : b ∈ trk h H := List.mem_filter.mpr ⟨List.mem_range.mpr (Heap.lt_size e'), by simp [q]⟩
    have z : (hidT h H).get? b = none := PySem.W.hideAll_none (trk h H) hm
    rw [z] at e; cases e

/-! ### OpenK's ledger, filled with every new object but one -/
end L2

namespace L2
open PySem PySem.Spec PyProof.Rows

/-- the module's facts, over the base: the heap at the law's entry without what is tracked there -/
structure Mod (K : PySem.W.Frag) (mg : Str → Option Value) (base : Heap) : Prop where
  kin : K.In base
  glob : base.Ns mainGlobals mg
  blt : ∃ mb, base.Ns builtinsNs mb ∧ ∀ x : Str, x ≠ "__name__" → mb x = bootBuiltins x
  nolimit : base.NoLimit

/-- the context: a def's body (or a comprehension's block) running. base: fixed through the whole law; s₀, H₀: the entry; outer: the frames whose slots others may change (a def's callers); stack: all frames that run;
   ex: iterators that were made ahead of the entry and are walked here (a comprehension's); fn: the names whose cells were made at the entry (a def: all; a comprehension's block: its own); calm: not within an except suite; pn: pins that every state bears; xe: what is wanted of an exception that leaves the code -/
structure Cx where
  prog : Program
  w : World
  K : PySem.W.Frag
  mg : Str → Option Value
  base : Heap
  A : Around
  N : List Str
  s₀ : Shared
  H₀ : Hp
  env : Env
  outer : List Env
  stack : List Env
  ex : List Addr
  fn : Str → Bool
  calm : Bool
  pn : List (Addr × Obj)
  xe : Value → Shared → Prop
/-- the callers' frames -/
noncomputable def frs (l : List Env) : List Addr := l.filterMap (·.frame)
noncomputable abbrev Cx.fs (X : Cx) : List Addr := frs X.outer

noncomputable def Vis (sc : Scope) (x : Str) : Prop := sc.names.lookup x = some .local ∨ sc.names.lookup x = some .cell ∨ sc.names.lookup x = some .free
noncomputable def Loc (sc : Scope) (x : Str) : Prop := sc.names.lookup x = some .local ∨ sc.names.lookup x = some .cell
noncomputable def Look (env : Env) (h : Heap) (m : Str → Option Value) (x : Str) (u : Value) : Prop :=
  (env.kindOf x = some .local ∧ m x = some u) ∨ ((env.kindOf x = some .cell ∨ env.kindOf x = some .free) ∧ ∃ c, env.cells.lookup x = some c ∧ h.IsCell c (some u))

structure Cx.Ok (X : Cx) : Prop where
  mod : Mod X.K X.mg X.base
  kind : X.env.scope.kind = .function
  glob : X.env.globals = mainGlobals
  blt : X.env.builtins = builtinsNs
  above : X.s₀.heap.objs.size ≤ X.env.locals
  inj : ∀ x y c, X.env.cells.lookup x = some c → X.env.cells.lookup y = some c → x = y
  has : ∀ x, (X.env.kindOf x = some .cell ∨ X.env.kindOf x = some .free) → ∃ c, X.env.cells.lookup x = some c
  cab : ∀ x c, X.fn x = true → X.env.cells.lookup x = some c → X.s₀.heap.objs.size ≤ c
  hd : X.calm = true → X.A.handled = none
  frames : X.A.frames = some X.stack
  stk : X.stack = X.outer ∨ (X.stack = X.env :: X.outer ∧ X.env.frame = some X.env.locals)
  exf : ∀ b ∈ X.ex, b ≠ X.env.locals ∧ ∀ x c, X.env.cells.lookup x = some c → c ≠ b
  bs : ∀ b o, X.base.get? b = some o → X.s₀.heap.get? b = some o ∧ X.H₀ b = none
  bsz : X.base.objs.size ≤ X.s₀.heap.objs.size
  noex : ∀ b o, X.base.get? b = some o → b ∉ X.ex
  exfs : ∀ b ∈ X.ex, b ∉ X.fs
  funs : X.s₀.heap.FunFrames X.base X.outer
  frf : ∀ b ∈ X.fs, X.H₀ b = none

structure Inv (X : Cx) (pins : List (Addr × Obj)) (σ : List (Option V)) (H : Hp) (s : Shared) : Prop where
  ok : X.Ok
  os : s.os = X.s₀.os
  bare : AllBare s.gens
  base : Un X.fs X.ex X.H₀ H X.s₀.heap s.heap
  loc : ∃ m, s.heap.Ns X.env.locals m ∧ ∀ (i : Nat) (x : Str) (v : V), X.N[i]? = some x → σ[i]? = some (some v) → Vis X.env.scope x → ∃ u, RelV v u ∧ Look X.env s.heap m x u
  cell : ∀ x c, X.env.cells.lookup x = some c → ∃ v, s.heap.IsCell c v
  free : H X.env.locals = none
  freeC : ∀ x c, X.env.cells.lookup x = some c → H c = none
  pin : ∀ p ∈ X.pn ++ pins, s.heap.get? p.1 = some p.2 ∧ H p.1 = none ∧ p.1 ≠ X.env.locals ∧ p.1 ∉ X.fs ∧ ∀ v, p.2.data ≠ .cell v
  hok : HOk X.prog X.w H s.heap
  len : σ.length = X.N.length

section
variable {X : Cx} {pins : List (Addr × Obj)} {σ : List (Option V)} {H H' : Hp} {s : Shared} {h' : Heap}

theorem Cx.Ok.nofr (ok : X.Ok) {b : Addr} {o : Obj} (e : X.base.get? b = some o) : b ∉ X.fs := fun hb => by
  have := (ok.funs.mem hb).1
  rw [e] at this; cases this
theorem Inv.bs (I : Inv X pins σ H s) : ∀ b o, X.base.get? b = some o → s.heap.get? b = some o ∧ H b = none := fun b o e =>
  ⟨I.base.keep b o (I.ok.bs b o e).1 (I.ok.bs b o e).2 (I.ok.nofr e) (I.ok.noex b o e), I.base.free b o (I.ok.bs b o e).1 (I.ok.bs b o e).2 (I.ok.noex b o e)⟩
theorem Inv.bk (I : Inv X pins σ H s) : ∀ b o, X.base.get? b = some o → s.heap.get? b = some o := fun b o e => (I.bs b o e).1
theorem Inv.mod (I : Inv X pins σ H s) : Mod X.K X.mg X.base := I.ok.mod
theorem Inv.kIn (I : Inv X pins σ H s) : X.K.In s.heap := I.ok.mod.kin.keeps I.bk
theorem Inv.lt (I : Inv X pins σ H s) : X.env.locals < s.heap.objs.size := let ⟨_, hn, _⟩ := I.loc; hn.lt
theorem Inv.sz (I : Inv X pins σ H s) : X.s₀.heap.objs.size ≤ s.heap.objs.size := Nat.le_trans I.ok.above (Nat.le_of_lt I.lt)
theorem Inv.nofs (I : Inv X pins σ H s) {a : Addr} (h : s.heap.objs.size ≤ a) : a ∉ X.fs := fun hb => by
  obtain ⟨_, o, ho, _⟩ := I.ok.funs.mem hb
  exact absurd (Nat.lt_of_lt_of_le (Heap.lt_size ho) (Nat.le_trans I.sz h)) (Nat.lt_irrefl _)
theorem Inv.cne (I : Inv X pins σ H s) : ∀ x c, X.env.cells.lookup x = some c → c ≠ X.env.locals := fun x c e z => by
  obtain ⟨v, o, ho, hd⟩ := I.cell x c e
  obtain ⟨m, ⟨o', es, ep, ho', hd', _⟩, _⟩ := I.loc
  rw [z, ho'] at ho; cases ho; rw [hd'] at hd; cases hd
theorem Inv.funs (I : Inv X pins σ H s) : s.heap.FunFrames X.base X.outer := by
  have all : ∀ (l : List Env), (∀ b ∈ frs l, b ∈ X.fs) → X.s₀.heap.FunFrames X.base l → s.heap.FunFrames X.base l := by
    intro l
    induction l with
    | nil => intro _ _; trivial
    | cons env r ih =>
      intro hs hl
      obtain ⟨hk, ⟨L, o, hf, hn, ho, hd⟩, hr⟩ := hl
      have hL : L ∈ X.fs := hs L (by unfold frs; rw [List.filterMap_cons, hf]; exact List.mem_cons_self)
      obtain ⟨sl, e⟩ := I.base.slot L o ho (I.ok.frf L hL) hL fun z => I.ok.exfs L z hL
      exact ⟨hk, ⟨L, _, hf, hn, e, hd⟩, ih (fun b hb => hs b (by unfold frs; rw [List.filterMap_cons, hf]; exact List.mem_cons_of_mem _ hb)) hr⟩
  exact all X.outer (fun _ hb => hb) I.ok.funs

/-- the frames that run, for a call -/
theorem Inv.stack (I : Inv X pins σ H s) : s.heap.FunFrames X.base X.stack := by
  rcases I.ok.stk with e | ⟨e, hf⟩
  · rw [e]; exact I.funs
  · rw [e]
    obtain ⟨m, hn, _⟩ := I.loc
    refine .cons (by rw [I.ok.kind]; decide) hf hn ?_ I.funs
    exact Heap.get?_none_of_le (Nat.le_trans I.ok.bsz I.ok.above)
theorem Inv.stkSub (I : Inv X pins σ H s) : ∀ b ∈ frs X.stack, b ∈ X.env.locals :: X.fs := fun b hb => by
  rcases I.ok.stk with e | ⟨e, hf⟩
  · rw [e] at hb; exact List.mem_cons_of_mem _ hb
  · rw [e] at hb
    unfold frs at hb
    rw [List.filterMap_cons, hf] at hb
    exact hb
theorem Inv.stkFree (I : Inv X pins σ H s) : ∀ b ∈ frs X.stack, H b = none := fun b hb => by
  rcases List.mem_cons.mp (I.stkSub b hb) with e | hb
  · rw [e]; exact I.free
  · obtain ⟨_, o, ho, _⟩ := I.ok.funs.mem hb
    exact I.base.free b o ho (I.ok.frf b hb) fun z => I.ok.exfs b z hb

/-- THE STEP: the untracked objects but the frame and the records at ch are kept (the callers' frames up to slots), the frame's map is kept, the new abstract heap is held -/
theorem Inv.step {g' : Array GenState} {t' : Nat} {d' : Drawn} {ch : List Addr} (I : Inv X pins σ H s)
    (hch : ∀ b ∈ ch, (b ∈ X.ex ∨ X.s₀.heap.objs.size ≤ b) ∧ b ≠ X.env.locals ∧ (∀ x c, X.env.cells.lookup x = some c → c ≠ b) ∧ ∀ p ∈ X.pn ++ pins, p.1 ≠ b)
    (keep : ∀ b o, b ≠ X.env.locals → b ∉ X.fs → b ∉ ch → s.heap.get? b = some o → H b = none → h'.get? b = some o)
    (slot : ∀ b o, b ≠ X.env.locals → b ∈ X.fs → b ∉ ch → s.heap.get? b = some o → H b = none → ∃ sl, h'.get? b = some { o with slots := sl }) (free : ∀ b o, b ∉ ch → s.heap.get? b = some o → H b = none → H' b = none)
    (there : ∀ b o, b ∉ ch → s.heap.get? b = some o → ∃ o', h'.get? b = some o')
    (tups : ∀ b xs, H b = some (.tup xs) → H' b = some (.tup xs)) (frzs : ∀ b o u, H b = some (.frz o u) → H' b = some (.frz o u)) (tbls : ∀ b ps, H b = some (.tbl ps) → ∃ more, H' b = some (.tbl (ps ++ more)))
    (ns : ∀ m, s.heap.Ns X.env.locals m → h'.Ns X.env.locals m) (hok : HOk X.prog X.w H' h') (hg : AllBare g') :
    Inv X pins σ H' { s with heap := h', gens := g', drawn := d', toks := t' } := by
  have neL : ∀ b o, X.s₀.heap.get? b = some o → b ≠ X.env.locals := fun b o e => Nat.ne_of_lt (Nat.lt_of_lt_of_le (Heap.lt_size e) I.ok.above)
  have neC : ∀ b o, X.s₀.heap.get? b = some o → b ∉ X.ex → b ∉ ch := fun b o e hx hb => by
    rcases (hch b hb).1 with z | z
    · exact hx z
    · exact absurd (Nat.lt_of_lt_of_le (Heap.lt_size e) z) (Nat.lt_irrefl _)
  have cellK : ∀ x c, X.env.cells.lookup x = some c → ∀ v, s.heap.IsCell c v → h'.IsCell c v := fun x c e v ⟨o, ho, hd⟩ => by
    have nch : c ∉ ch := fun z => (hch c z).2.2.1 x c e rfl
    by_cases hc : c ∈ X.fs
    · obtain ⟨sl, q⟩ := slot c o (I.cne x c e) hc nch ho (I.freeC x c e)
      exact ⟨_, q, hd⟩
    · exact ⟨o, keep c o (I.cne x c e) hc nch ho (I.freeC x c e), hd⟩
  refine ⟨I.ok, I.os, hg, ⟨fun b o e n hb hx => ?_, fun b o e n hb hx => ?_, fun b o e n hx => ?_, fun b o e hx => ?_, fun b xs e => tups b xs (I.base.tups b xs e), fun b o xs e => frzs b o xs (I.base.frzs b o xs e), fun b ps e => ?_⟩, ?_, fun x c e => ?_, ?_, fun x c e => ?_, fun p hp => ?_, hok, I.len⟩
  · exact keep b o (neL b o e) hb (neC b o e hx) (I.base.keep b o e n hb hx) (I.base.free b o e n hx)
  · obtain ⟨sl, e1⟩ := I.base.slot b o e n hb hx
    obtain ⟨sl', e2⟩ := slot b _ (neL b o e) hb (neC b o e hx) e1 (I.base.free b o e n hx)
    exact ⟨sl', e2⟩
  · obtain ⟨o', e1⟩ := I.base.there b o e hx
    exact free b o' (neC b o e hx) e1 (I.base.free b o e n hx)
  · obtain ⟨o', e1⟩ := I.base.there b o e hx
    exact there b o' (neC b o e hx) e1
  · obtain ⟨m1, e1⟩ := I.base.tbls b ps e
    obtain ⟨m2, e2⟩ := tbls b _ e1
    exact ⟨m1 ++ m2, by rw [e2, Array.append_assoc]⟩
  · obtain ⟨m, hn, hl⟩ := I.loc
    refine ⟨m, ns m hn, fun i x v e1 e2 e3 => ?_⟩
    obtain ⟨u, r, l⟩ := hl i x v e1 e2 e3
    refine ⟨u, r, ?_⟩
    rcases l with l | ⟨k, c, e, z⟩
    · exact .inl l
    · exact .inr ⟨k, c, e, cellK x c e _ z⟩
  · obtain ⟨v, z⟩ := I.cell x c e
    exact ⟨v, cellK x c e v z⟩
  · obtain ⟨m, ⟨o, _, _, ho, _⟩, _⟩ := I.loc
    exact free _ o (fun z => (hch _ z).2.1 rfl) ho I.free
  · obtain ⟨v, o, ho, hd⟩ := I.cell x c e
    exact free c o (fun z => (hch c z).2.2.1 x c e rfl) ho (I.freeC x c e)
  · obtain ⟨e, n, ne, nf, d⟩ := I.pin p hp
    have nch : p.1 ∉ ch := fun z => (hch p.1 z).2.2.2 p hp rfl
    exact ⟨keep p.1 p.2 ne nf nch e n, free p.1 p.2 nch e n, ne, nf, d⟩
/-- .. where the frame's own object is kept too -/
theorem Inv.un {t' : Nat} (I : Inv X pins σ H s) (u : Un X.fs [] H H' s.heap h') (hok : HOk X.prog X.w H' h') : Inv X pins σ H' { s with heap := h', toks := t' } := by
  obtain ⟨m, ⟨o, es, ep, ho, r⟩, _⟩ := id I.loc
  obtain ⟨sl, hL⟩ := u.any ho I.free (by simp)
  exact I.step (g' := s.gens) (d' := s.drawn) (ch := []) (fun _ z => nomatch z) (fun b o _ hb _ e n => u.keep b o e n hb (by simp)) (fun b o _ hb _ e n => u.slot b o e n hb (by simp)) (fun b o _ e n => u.free b o e n (by simp)) (fun b o _ e => u.there b o e (by simp)) u.tups u.frzs u.tbls (fun m' hm => by
    obtain ⟨o', es', ep', ho', r'⟩ := hm
    rw [ho] at ho'; cases ho'
    exact ⟨_, es', ep', hL, r'⟩) hok I.bare
/-- behind a call (or a comprehension's block): the slots of this frame may have changed too, the records at ch may have turned -/
theorem Inv.call {g' : Array GenState} {t' : Nat} {d' : Drawn} {ch : List Addr} (I : Inv X pins σ H s) (u : Un (frs X.stack) ch H H' s.heap h') (hok : HOk X.prog X.w H' h') (hg : AllBare g')
    (hch : ∀ b ∈ ch, (b ∈ X.ex ∨ X.s₀.heap.objs.size ≤ b) ∧ b ≠ X.env.locals ∧ (∀ x c, X.env.cells.lookup x = some c → c ≠ b) ∧ ∀ p ∈ X.pn ++ pins, p.1 ≠ b) :
    Inv X pins σ H' { s with heap := h', gens := g', drawn := d', toks := t' } := by
  obtain ⟨m, ⟨o, es, ep, ho, r⟩, _⟩ := id I.loc
  obtain ⟨sl, hL⟩ := u.any ho I.free fun z => (hch _ z).2.1 rfl
  exact I.step (ch := ch) hch (fun b o hL hb hc e n => u.keep b o e n (fun z => (List.mem_cons.mp (I.stkSub b z)).elim hL hb) hc) (fun b o _ _ hc e n => u.any e n hc) (fun b o hc e n => u.free b o e n hc) (fun b o hc e => u.there b o e hc) u.tups u.frzs u.tbls (fun m' hm => by
    obtain ⟨o', es', ep', ho', r'⟩ := hm
    rw [ho] at ho'; cases ho'
    exact ⟨_, es', ep', hL, r'⟩) hok hg
/-- an untracked record of ours (an iterator) has turned -/
theorem Inv.turned {t' : Nat} {it : Addr} (I : Inv X pins σ H s) (k : ∀ b o, b ≠ it → s.heap.get? b = some o → h'.get? b = some o) (hn : H it = none) (hL : it ≠ X.env.locals)
    (h1 : it ∈ X.ex ∨ X.s₀.heap.objs.size ≤ it) (h2 : ∀ x c, X.env.cells.lookup x = some c → c ≠ it) (h3 : ∀ p ∈ X.pn ++ pins, p.1 ≠ it) : Inv X pins σ H { s with heap := h', toks := t' } := by
  have nit : ∀ b u, H b = some u → b ≠ it := fun b u e z => by rw [z, hn] at e; cases e
  refine I.step (g' := s.gens) (d' := s.drawn) (ch := [it]) (fun b hb => ?_) (fun b o _ _ hc e _ => k b o (fun z => hc (by simp [z])) e) (fun b o _ _ hc e _ => ⟨o.slots, k b o (fun z => hc (by simp [z])) e⟩) (fun _ _ _ _ n => n)
    (fun b o hc e => ⟨o, k b o (fun z => hc (by simp [z])) e⟩) (fun _ _ e => e) (fun _ _ _ e => e) (fun b ps e => ⟨#[], by rw [e]; simp⟩) (fun m hm => ?_) (fun b u e => ?_) I.bare
  · have e : b = it := by simpa using hb
    subst e
    exact ⟨h1, hL, h2, h3⟩
  · obtain ⟨o, es, ep, ho, r⟩ := hm
    exact ⟨o, es, ep, k _ o (Ne.symm hL) ho, r⟩
  · refine (I.hok b u e).stay (fun c v hc q => k c v ?_ q) (fun _ q => q) fun _ _ q => q
    rcases hc with z | z
    · rw [z]; exact nit b u e
    · exact nit c _ z
theorem Inv.tok (I : Inv X pins σ H s) (t : Nat) : Inv X pins σ H { s with toks := t } := I.un (h' := s.heap) (t' := t) Un.refl I.hok
/-- all objects kept -/
theorem Inv.kept {t' : Nat} (I : Inv X pins σ H s) (k : ∀ b u, s.heap.get? b = some u → h'.get? b = some u) : Inv X pins σ H { s with heap := h', toks := t' } := I.un (Un.kept k) (I.hok.kept k)
/-- a new object laid and tracked -/
theorem Inv.laid {a : Addr} {o : HO} {t' : Nat} (I : Inv X pins σ H s) (k : ∀ b u, s.heap.get? b = some u → h'.get? b = some u) (hp : s.heap.objs.size ≤ a) (new : ObjOk X.prog X.w (upd H a o) h' a o) :
    Inv X pins σ (upd H a o) { s with heap := h', toks := t' } := I.un (Un.laid k hp (I.hok.fresh hp)) (I.hok.laid k hp new)
/-- an object written -/
theorem Inv.write {x e : Addr} {o : HO} {t' : Nat} (I : Inv X pins σ H s) (mu : Mut (H x)) (he : e = x ∨ H e = some (.own x)) (k : ∀ b u, b ≠ e → s.heap.get? b = some u → h'.get? b = some u) (heo : ∃ u, h'.get? e = some u)
    (new : ObjOk X.prog X.w (upd H x o) h' x o) : Inv X pins σ (upd H x o) { s with heap := h', toks := t' } := I.un (Un.write mu he k heo) (I.hok.write mu he k heo new)
theorem Inv.pins_of {pins' : List (Addr × Obj)} (I : Inv X pins σ H s) (h : ∀ p ∈ pins', s.heap.get? p.1 = some p.2 ∧ H p.1 = none ∧ p.1 ≠ X.env.locals ∧ p.1 ∉ X.fs ∧ ∀ v, p.2.data ≠ .cell v) : Inv X pins' σ H s :=
  ⟨I.ok, I.os, I.bare, I.base, I.loc, I.cell, I.free, I.freeC, fun p hp => (List.mem_append.mp hp).elim (fun z => I.pin p (List.mem_append_left _ z)) (h p), I.hok, I.len⟩

theorem nodup_ix {N : List Str} (hN : N.Nodup) {i j : Nat} {x : Str} (a : N[i]? = some x) (b : N[j]? = some x) : i = j := by
  obtain ⟨h1, e1⟩ := List.getElem?_eq_some_iff.mp a
  obtain ⟨h2, e2⟩ := List.getElem?_eq_some_iff.mp b
  exact (List.getElem_inj hN).mp (e1.trans e2.symm)

/-- a name is stored; what changed -/
theorem store_ok2 {M : Model} {A : Around} {E : Value → Shared → Prop} {i : Nat} {x : Str} {v : V} {u : Value} {Q : Unit → Shared → Prop} (I : Inv X pins σ H s) (hN : X.N.Nodup) (hi : X.N[i]? = some x) (hx : Loc X.env.scope x) (r : RelV v u)
    (h : ∀ s', Inv X pins (σ.set i (some v)) H s' → (∃ a, Heap.SameBut a s.heap s'.heap ∧ (a = X.env.locals ∨ X.env.cells.lookup x = some a)) → Q () s') (hf : X.fn x = true ∨ X.env.scope.names.lookup x = some .local := by first | exact .inl rfl | exact .inr rfl | assumption) : wpAny M A (storeName X.env x u) Q E s := by
  obtain ⟨m, hn, hl⟩ := id I.loc
  have hcls : (X.env.scope.kind == .class || (X.env.scope.kind == .module && X.env.locals != X.env.globals)) = false := by rw [I.ok.kind]; rfl
  have hiσ : i < σ.length := by rw [I.len]; exact (List.getElem?_eq_some_iff.mp hi).1
  have cne := I.cne
  have tracked : ∀ {a : Addr} {h' : Heap}, (∃ o, s.heap.get? a = some o ∧ H a = none) → Heap.SameBut a s.heap h' → HOk X.prog X.w H h' := fun {a h'} ha hs b ob e => by
    obtain ⟨_, _, hfree⟩ := ha
    refine (I.hok b ob e).stay (fun c w' hc q => (hs.2 c ?_).trans q) (fun _ q => q) fun _ _ q => q
    rintro rfl
    rcases hc with rfl | hc
    · rw [hfree] at e; cases e
    · rw [hfree] at hc; cases hc
  rcases hx with hk | hk
  · refine wpAny_storeName_local hk hn (fun h' hn' hs => ?_) hcls
    obtain ⟨oL, _, _, hoL, _⟩ := id hn
    refine h _ ⟨I.ok, I.os, I.bare, ⟨fun b o e n hb hx => ?_, fun b o e n hb hx => ?_, I.base.free, fun b o e hx => ?_, I.base.tups, I.base.frzs, I.base.tbls⟩, ⟨_, hn', fun j y v' e1 e2 e3 => ?_⟩, fun y c e => ?_, I.free, I.freeC, fun p hp => ?_, tracked ⟨oL, hoL, I.free⟩ hs, by simpa using I.len⟩ ⟨_, hs, .inl rfl⟩
    · exact (hs.2 b (Nat.ne_of_lt (Nat.lt_of_lt_of_le (Heap.lt_size e) I.ok.above))).trans (I.base.keep b o e n hb hx)
    · obtain ⟨sl, e1⟩ := I.base.slot b o e n hb hx
      exact ⟨sl, (hs.2 b (Nat.ne_of_lt (Nat.lt_of_lt_of_le (Heap.lt_size e) I.ok.above))).trans e1⟩
    · obtain ⟨o', e1⟩ := I.base.there b o e hx
      exact ⟨o', (hs.2 b (Nat.ne_of_lt (Nat.lt_of_lt_of_le (Heap.lt_size e) I.ok.above))).trans e1⟩
    · by_cases hj : j = i
      · subst hj
        rw [hi] at e1; cases e1
        rw [List.getElem?_set_self hiσ] at e2
        cases e2
        exact ⟨u, r, .inl ⟨hk, by simp⟩⟩
      · rw [List.getElem?_set_ne (Ne.symm hj)] at e2
        obtain ⟨u', r', q⟩ := hl j y v' e1 e2 e3
        refine ⟨u', r', ?_⟩
        rcases q with ⟨k, e⟩ | ⟨k, c, e, z⟩
        · refine .inl ⟨k, ?_⟩
          have : y ≠ x := fun e => hj (nodup_ix hN e1 (e ▸ hi))
          simp [this, e]
        · exact .inr ⟨k, c, e, z.sameBut hs (cne y c e)⟩
    · obtain ⟨w', z⟩ := I.cell y c e
      exact ⟨w', z.sameBut hs (cne y c e)⟩
    · obtain ⟨e, n, ne, nf, d⟩ := I.pin p hp
      exact ⟨(hs.2 p.1 ne).trans e, n, ne, nf, d⟩
  · have hfn : X.fn x = true := by
      rcases hf with z | z
      · exact z
      · rw [z] at hk; cases hk
    obtain ⟨c, hc⟩ := I.ok.has x (.inl hk)
    obtain ⟨w', z⟩ := I.cell x c hc
    refine wpAny_storeName_cell I.ok.kind hk hc z (fun h' hc' hs => ?_)
    obtain ⟨oc, hoc, hocd⟩ := id z
    refine h { s with heap := h' } ⟨I.ok, I.os, I.bare, ⟨fun b o e n hb hx => ?_, fun b o e n hb hx => ?_, I.base.free, fun b o e hx => ?_, I.base.tups, I.base.frzs, I.base.tbls⟩, ⟨m, hn.sameBut hs (Ne.symm (cne x c hc)), fun j y v' e1 e2 e3 => ?_⟩, fun y c' e => ?_, I.free, I.freeC, fun p hp => ?_, tracked ⟨oc, hoc, I.freeC x c hc⟩ hs, by simpa using I.len⟩ ⟨c, hs, .inr hc⟩
    · exact (hs.2 b (Nat.ne_of_lt (Nat.lt_of_lt_of_le (Heap.lt_size e) (I.ok.cab x c hfn hc)))).trans (I.base.keep b o e n hb hx)
    · obtain ⟨sl, e1⟩ := I.base.slot b o e n hb hx
      exact ⟨sl, (hs.2 b (Nat.ne_of_lt (Nat.lt_of_lt_of_le (Heap.lt_size e) (I.ok.cab x c hfn hc)))).trans e1⟩
    · obtain ⟨o', e1⟩ := I.base.there b o e hx
      exact ⟨o', (hs.2 b (Nat.ne_of_lt (Nat.lt_of_lt_of_le (Heap.lt_size e) (I.ok.cab x c hfn hc)))).trans e1⟩
    · by_cases hj : j = i
      · subst hj
        rw [hi] at e1; cases e1
        rw [List.getElem?_set_self hiσ] at e2
        cases e2
        exact ⟨u, r, .inr ⟨.inl hk, c, hc, hc'⟩⟩
      · rw [List.getElem?_set_ne (Ne.symm hj)] at e2
        obtain ⟨u', r', q⟩ := hl j y v' e1 e2 e3
        refine ⟨u', r', ?_⟩
        rcases q with q | ⟨k, c', e, z'⟩
        · exact .inl q
        · refine .inr ⟨k, c', e, z'.sameBut hs ?_⟩
          rintro rfl
          exact hj (nodup_ix hN e1 (I.ok.inj _ _ _ e hc ▸ hi))
    · by_cases hcc : c' = c
      · subst hcc; exact ⟨_, hc'⟩
      · obtain ⟨w2, z2⟩ := I.cell y c' e
        exact ⟨w2, z2.sameBut hs hcc⟩
    · obtain ⟨e, n, ne, nf, d⟩ := I.pin p hp
      refine ⟨(hs.2 p.1 ?_).trans e, n, ne, nf, d⟩
      intro q
      rw [q, hoc] at e
      have q' : oc = p.2 := Option.some.inj e
      exact d w' (by rw [← q']; exact hocd)
theorem store_ok {M : Model} {A : Around} {E : Value → Shared → Prop} {i : Nat} {x : Str} {v : V} {u : Value} {Q : Unit → Shared → Prop} (I : Inv X pins σ H s) (hN : X.N.Nodup) (hi : X.N[i]? = some x) (hx : Loc X.env.scope x) (r : RelV v u)
    (h : ∀ s', Inv X pins (σ.set i (some v)) H s' → Q () s') (hf : X.fn x = true ∨ X.env.scope.names.lookup x = some .local := by first | exact .inl rfl | exact .inr rfl | assumption) : wpAny M A (storeName X.env x u) Q E s :=
  store_ok2 I hN hi hx r (fun s' I' _ => h s' I') hf
/-- behind a call or a block, the state as it is -/
theorem Inv.call' {s' : Shared} {ch : List Addr} (I : Inv X pins σ H s) (ho : s'.os = s.os) (u : Un (frs X.stack) ch H H' s.heap s'.heap) (hok : HOk X.prog X.w H' s'.heap) (hg : AllBare s'.gens)
    (hch : ∀ b ∈ ch, (b ∈ X.ex ∨ X.s₀.heap.objs.size ≤ b) ∧ b ≠ X.env.locals ∧ (∀ x c, X.env.cells.lookup x = some c → c ≠ b) ∧ ∀ p ∈ X.pn ++ pins, p.1 ≠ b) : Inv X pins σ H' s' := by
  obtain ⟨h', g', d', t', o'⟩ := s'
  have e : o' = s.os := ho
  subst e
  exact I.call (g' := g') (t' := t') (d' := d') u hok hg hch
end

/-! ### the judgements -/
/-- an exception: its class, its own dict's address (where it has one), the abstract heap behind it -/
noncomputable abbrev XK := Value → Option Addr → Hp → Prop
noncomputable abbrev St := List (Option V)
noncomputable abbrev VK := V → Hp → Prop
/-- an expression's reading; a test's; an argument list's -/
noncomputable abbrev TE := St → Hp → VK → Prop
noncomputable abbrev TT := St → Hp → (Bool → Hp → Prop) → Prop
noncomputable abbrev TA := St → Hp → (List V → Hp → Prop) → Prop
/-- what is wanted behind a statement -/
structure Ends where
  nx : St → Hp → Prop
  rt : VK
  bk : St → Hp → Prop := fun _ _ => False
  ct : St → Hp → Prop := fun _ _ => False
noncomputable abbrev TS := Ends → St → Hp → Prop

noncomputable def EP (X : Cx) (pins : List (Addr × Obj)) (σ : St) (Q : VK) (u : Value) (s' : Shared) : Prop := Ex2 fun v H' => Inv X pins σ H' s' ∧ RelV v u ∧ Q v H'
noncomputable def TP (X : Cx) (pins : List (Addr × Obj)) (σ : St) (Q : Bool → Hp → Prop) (b : Bool) (s' : Shared) : Prop := ∃ H', Inv X pins σ H' s' ∧ Q b H'
noncomputable def AP (X : Cx) (pins : List (Addr × Obj)) (σ : St) (Q : List V → Hp → Prop) (us : List Value) (s' : Shared) : Prop := Ex2 fun vs H' => Inv X pins σ H' s' ∧ Vals vs us ∧ Q vs H'
noncomputable def SP (X : Cx) (pins : List (Addr × Obj)) (D : Ends) (f : Flow) (s' : Shared) : Prop :=
  match f with
  | .next => Ex2 fun σ' H' => Inv X pins σ' H' s' ∧ D.nx σ' H'
  | .brk => Ex2 fun σ' H' => Inv X pins σ' H' s' ∧ D.bk σ' H'
  | .cont => Ex2 fun σ' H' => Inv X pins σ' H' s' ∧ D.ct σ' H'
  | .ret u => Ex3 fun v σ' H' => Inv X pins σ' H' s' ∧ RelV v u ∧ D.rt v H'

noncomputable def PE (X : Cx) (e : Expr) (t : TE) : Prop :=
  ∀ (pins : List (Addr × Obj)) (s : Shared) (σ : St) (H : Hp) (Q : VK), Inv X pins σ H s → t σ H Q → wpAny (model X.prog X.w) X.A (eval e X.env) (EP X pins σ Q) X.xe s
noncomputable def PT (X : Cx) (e : Expr) (t : TT) : Prop :=
  ∀ (pins : List (Addr × Obj)) (s : Shared) (σ : St) (H : Hp) (Q : Bool → Hp → Prop), Inv X pins σ H s → t σ H Q → wpAny (model X.prog X.w) X.A (isTrue e X.env (eval e X.env)) (TP X pins σ Q) X.xe s
/-- a test whatever its 'whole' is (and, or) -/
noncomputable def PW (X : Cx) (e : Expr) (t : TT) : Prop :=
  ∀ (whole : Sem Value) (pins : List (Addr × Obj)) (s : Shared) (σ : St) (H : Hp) (Q : Bool → Hp → Prop), Inv X pins σ H s → t σ H Q → wpAny (model X.prog X.w) X.A (isTrue e X.env whole) (TP X pins σ Q) X.xe s
theorem PW.pt {X : Cx} {e : Expr} {t : TT} (h : PW X e t) : PT X e t := h _
/-- an argument list (no star), from the left -/
noncomputable def PA (X : Cx) (es : List Expr) (t : TA) : Prop :=
  ∀ (pos : Pos) (pins : List (Addr × Obj)) (s : Shared) (σ : St) (H : Hp) (Q : List V → Hp → Prop), Inv X pins σ H s → t σ H Q → wpAny (model X.prog X.w) X.A (spliced (backTo pos (starEach es X.env))) (AP X pins σ Q) X.xe s
noncomputable def PS (X : Cx) (st : Stmt) (t : TS) : Prop :=
  ∀ (pins : List (Addr × Obj)) (s : Shared) (σ : St) (H : Hp) (D : Ends), Inv X pins σ H s → t D σ H → wpAny (model X.prog X.w) X.A (exec st X.env) (SP X pins D) X.xe s
noncomputable def PSs (X : Cx) (st : List Stmt) (t : TS) : Prop :=
  ∀ (pins : List (Addr × Obj)) (s : Shared) (σ : St) (H : Hp) (D : Ends), Inv X pins σ H s → t D σ H → wpAny (model X.prog X.w) X.A (execs st X.env) (SP X pins D) X.xe s
/-- weaken the end -/
theorem thn {α : Type} {t : Sem α} {Q Q' : α → Shared → Prop} {M : Model} {A : Around} {E : Value → Shared → Prop} {s : Shared} (h : wpAny M A t Q E s) (hQ : ∀ a s, Q a s → Q' a s) : wpAny M A t Q' E s := wpAny_mono h hQ fun _ _ x => x
end L2

namespace L2
open PySem PySem.Spec PyProof.Rows
section
variable {X : Cx}


/-! ### names and constants -/
inductive GVar (i : Nat) (σ : St) (H : Hp) (Q : VK) : Prop
  | mk (v : V) (h : σ[i]? = some (some v)) (q : Q v H) : GVar i σ H Q
noncomputable def tVar (i : Nat) : TE := fun σ H Q => GVar i σ H Q
noncomputable def tC (v : V) : TE := fun _ H Q => Q v H
theorem pe_var {i : Nat} {x : Str} {pos : Pos} (hN : X.N[i]? = some x) (hv : Vis X.env.scope x) (hd : (x == ("__debug__" : Str)) = false := by decide) (hcd : (x == ("__classdict__" : Str)) = false := by decide) : PE X (.Name x pos) (tVar i) := by
  intro pins s σ H Q I h
  obtain ⟨v, e, h⟩ := h
  obtain ⟨m, hn, hl⟩ := I.loc
  obtain ⟨u, r, l⟩ := hl i x v hN e hv
  have fin : EP X pins σ Q u s := ⟨v, H, I, r, h⟩
  rcases l with ⟨hk, hm⟩ | ⟨hk, c, hc, hcell⟩
  · exact wpAny_Name (wpAny_loadName_local I.ok.kind hk hn hm fin) hd
  · rcases hk with hk | hk
    · exact wpAny_Name (wpAny_loadName_cell I.ok.kind hk hc hcell fin) hd
    · exact wpAny_Name (wpAny_loadName_free I.ok.kind hk hc hcell fin hcd) hd
theorem pe_int {i j pos} : PE X (.Constant (.int i) j pos) (tC (.int i)) := fun _ _ _ H _ I h => wpAny_Constant_int ⟨.int i, H, I.tok _, ⟨_, rfl⟩, h⟩
theorem pe_bl {b j pos} : PE X (.Constant (.bool b) j pos) (tC (.bl b)) := fun _ _ _ H _ I h => Constant_bool ⟨.bl b, H, I, rfl, h⟩
theorem pe_str {x j pos} : PE X (.Constant (.str x) j pos) (tC (.str x)) := fun _ _ _ H _ I h => Calls.Constant_str ⟨.str x, H, I.tok _, ⟨_, rfl⟩, h⟩

/-- a global name of the def -/
noncomputable def Gl (X : Cx) (x : Str) : Prop := X.env.kindOf x = some .globalImplicit
theorem ld_glob {E : Value → Shared → Prop} {pins : List (Addr × Obj)} {s : Shared} {σ : St} {H : Hp} {x : Str} {u : Value} {pos : Pos} {Q : Value → Shared → Prop} (I : Inv X pins σ H s) (hg : Gl X x) (hm : X.mg x = some u) (h : Q u s)
    (hd : (x == ("__debug__" : Str)) = false := by decide) : wpAny (model X.prog X.w) X.A (eval (.Name x pos) X.env) Q E s :=
  Calls.Name_function_global I.ok.kind hg (Calls.loadGlobal_global (by rw [I.ok.glob]; exact I.mod.glob.keeps I.bk) hm h) hd
theorem ld_blt {E : Value → Shared → Prop} {pins : List (Addr × Obj)} {s : Shared} {σ : St} {H : Hp} {x : Str} {u : Value} {pos : Pos} {Q : Value → Shared → Prop} (I : Inv X pins σ H s) (hg : Gl X x) (hm : X.mg x = none) (hv : bootBuiltins x = some u) (h : Q u s)
    (hn : x ≠ "__name__" := by decide) (hd : (x == ("__debug__" : Str)) = false := by decide) : wpAny (model X.prog X.w) X.A (eval (.Name x pos) X.env) Q E s := by
  obtain ⟨mb, h1, h2⟩ := I.mod.blt
  exact Calls.Name_function_global I.ok.kind hg (Calls.loadGlobal_builtin (by rw [I.ok.glob]; exact I.mod.glob.keeps I.bk) hm (by rw [I.ok.blt]; exact h1.keeps I.bk) ((h2 x hn).trans hv) h) hd
/-- a module's constant, a class, a function, as a value -/
theorem pe_glob {x : Str} {v : V} {u : Value} {pos : Pos} (hg : Gl X x) (hm : X.mg x = some u) (r : RelV v u) (hd : (x == ("__debug__" : Str)) = false := by decide) : PE X (.Name x pos) (tC v) :=
  fun _ _ _ H _ I h => ld_glob I hg hm ⟨v, H, I, r, h⟩ hd
theorem pe_bltn {x : Str} {v : V} {u : Value} {pos : Pos} (hg : Gl X x) (hm : X.mg x = none) (hv : bootBuiltins x = some u) (r : RelV v u) (hn : x ≠ "__name__" := by decide) (hd : (x == ("__debug__" : Str)) = false := by decide) : PE X (.Name x pos) (tC v) :=
  fun _ _ _ H _ I h => ld_blt I hg hm hv ⟨v, H, I, r, h⟩ hn hd

/-! ### arithmetic -/
/-- two ints -/
noncomputable def t2I (ta tb : TE) (k : Int → Int → Hp → Prop) : St → Hp → Prop := fun σ H => ta σ H fun x H1 => tb σ H1 fun y H2 => Ex2 fun i j => x = .int i ∧ y = .int j ∧ k i j H2
variable {a b : Expr} {ta tb : TE} {pos : Pos}

/-! ### comparisons -/
noncomputable def PC (X : Cx) (op : CmpOp) (a b : Expr) (t : TE) : Prop :=
  ∀ (pins : List (Addr × Obj)) (s : Shared) (σ : St) (H : Hp) (Q : VK), Inv X pins σ H s → t σ H Q →
    wpAny (model X.prog X.w) X.A (eval a X.env) (fun v s₁ => wpAny (model X.prog X.w) X.A (eval b X.env) (fun u s₂ => wpAny (model X.prog X.w) X.A (compareOp op v u) (EP X pins σ Q) X.xe s₂) X.xe s₁) X.xe s
noncomputable def tCmp (p : Int → Int → Bool) (ta tb : TE) : TE := fun σ H Q => t2I ta tb (fun i j H2 => Q (.bl (p i j)) H2) σ H
noncomputable abbrev tLt : TE → TE → TE := tCmp fun i j => decide (i < j)
noncomputable abbrev tLe : TE → TE → TE := tCmp fun i j => decide (i ≤ j)
noncomputable abbrev tGt : TE → TE → TE := tCmp fun i j => decide (j < i)
noncomputable abbrev tGe : TE → TE → TE := tCmp fun i j => decide (j ≤ i)
noncomputable abbrev tEqI : TE → TE → TE := tCmp fun i j => decide (i = j)
noncomputable abbrev tNeI : TE → TE → TE := tCmp fun i j => !decide (i = j)
/-- a comparison as a value, as a test -/
noncomputable def tB (t : TE) : TT := fun σ H Q => t σ H fun x H1 => ∃ c, x = .bl c ∧ Q c H1
theorem pt_cmp {op : CmpOp} {t : TE} (h : PC X op a b t) (h1 : behindInMarks op b = false := by first | exact nobehind _ (by decide) (by decide) | rfl) : PT X (.Compare a [op] [b] pos) (tB t) := by
  intro pins s σ H Q I hw
  refine wpAny_isTrue_Compare1 (thn (h pins s σ H _ I hw) fun v s1 h1 => thn h1 fun u s2 h2 => thn h2 fun c s3 ⟨x, H1, I1, r1, q1⟩ => ?_) h1
  obtain ⟨d, rfl, q⟩ := q1
  cases r1
  exact wpAny_truthy_bool ⟨H1, I1, q⟩
/-- an expression whose value is a bool, as a test -/
theorem pt_val {e : Expr} {t : TE} (h : PE X e t) (he : ∀ whole, isTrue e X.env whole = (do let v ← whole; standAt e.pos; holding [v] (truthy v)) := by intro _; rfl) : PT X e (tB t) := by
  intro pins s σ H Q I hw
  refine isTrue_plain (thn (h pins s σ H _ I hw) fun v s1 ⟨x, H1, I1, r1, q1⟩ => ?_) (he _)
  obtain ⟨d, rfl, q⟩ := q1
  cases r1
  exact wpAny_truthy_bool ⟨H1, I1, q⟩

/-! ### and, or, not -/
variable {tA tB' : TT} {rest : List Expr}
noncomputable def tAnd (t u : TT) : TT := fun σ H Q => t σ H fun c H1 => if c = true then u σ H1 Q else Q false H1
noncomputable def tOr (t u : TT) : TT := fun σ H Q => t σ H fun c H1 => if c = true then Q true H1 else u σ H1 Q
noncomputable def tNot (t : TT) : TT := fun σ H Q => t σ H fun c H1 => Q (!c) H1
theorem pw_and1 (ha : PT X a tA) : PW X (.BoolOp .And [a] pos) tA := by
  intro wh pins s σ H Q I h
  refine isTrue_and (thn (ha pins s σ H Q I h) fun c s1 e => ?_)
  cases c with
  | true => exact isTrue_and_nil e
  | false => exact e
theorem pw_or1 (ha : PT X a tA) : PW X (.BoolOp .Or [a] pos) tA := by
  intro wh pins s σ H Q I h
  refine isTrue_or (thn (ha pins s σ H Q I h) fun c s1 e => ?_)
  cases c with
  | false => exact isTrue_or_nil e
  | true => exact e
theorem pw_and (ha : PT X a tA) (hb : PW X (.BoolOp .And (b :: rest) pos) tB') : PW X (.BoolOp .And (a :: b :: rest) pos) (tAnd tA tB') := by
  intro wh pins s σ H Q I h
  refine isTrue_and (thn (ha pins s σ H _ I h) fun c s1 hq => ?_)
  obtain ⟨H1, I1, q1⟩ := hq
  cases c with
  | true => exact hb wh pins s1 σ H1 Q I1 q1
  | false => exact ⟨H1, I1, q1⟩
theorem pw_or (ha : PT X a tA) (hb : PW X (.BoolOp .Or (b :: rest) pos) tB') : PW X (.BoolOp .Or (a :: b :: rest) pos) (tOr tA tB') := by
  intro wh pins s σ H Q I h
  refine isTrue_or (thn (ha pins s σ H _ I h) fun c s1 hq => ?_)
  obtain ⟨H1, I1, q1⟩ := hq
  cases c with
  | true => exact ⟨H1, I1, q1⟩
  | false => exact hb wh pins s1 σ H1 Q I1 q1
theorem pt_not (ha : PT X a tA) : PT X (.UnaryOp .Not a pos) (tNot tA) := by
  intro pins s σ H Q I h
  exact isTrue_not (ha pins s σ H (fun c H1 => Q (!c) H1) I h)
/-- .. as values (bools) -/
noncomputable def tAndV (ta tb : TE) : TE := fun σ H Q => ta σ H fun x H1 => ∃ c, x = .bl c ∧ if c = true then tb σ H1 Q else Q (.bl false) H1
noncomputable def tOrV (ta tb : TE) : TE := fun σ H Q => ta σ H fun x H1 => ∃ c, x = .bl c ∧ if c = true then Q (.bl true) H1 else tb σ H1 Q
noncomputable def tNotV (ta : TE) : TE := fun σ H Q => ta σ H fun x H1 => ∃ c, x = .bl c ∧ Q (.bl (!c)) H1
theorem pe_one {op} {t : TE} (h : PE X a t) : PE X (.BoolOp op [a] pos) t := fun pins s σ H Q I hw => BoolOp_one (h pins s σ H Q I hw)
theorem pe_and (ha : PE X a ta) (hb : PE X (.BoolOp .And (b :: rest) pos) tb) : PE X (.BoolOp .And (a :: b :: rest) pos) (tAndV ta tb) := by
  intro pins s σ H Q I h
  refine BoolOp_and (thn (ha pins s σ H _ I h) fun v s1 hq => ?_)
  obtain ⟨x, H1, I1, r1, q1⟩ := hq
  obtain ⟨c, rfl, q1⟩ := q1
  cases r1
  refine wpAny_truthy_bool ?_
  cases c with
  | true => exact hb pins s1 σ H1 Q I1 q1
  | false => exact ⟨.bl false, H1, I1, rfl, q1⟩
theorem pe_or (ha : PE X a ta) (hb : PE X (.BoolOp .Or (b :: rest) pos) tb) : PE X (.BoolOp .Or (a :: b :: rest) pos) (tOrV ta tb) := by
  intro pins s σ H Q I h
  refine BoolOp_or (thn (ha pins s σ H _ I h) fun v s1 hq => ?_)
  obtain ⟨x, H1, I1, r1, q1⟩ := hq
  obtain ⟨c, rfl, q1⟩ := q1
  cases r1
  refine wpAny_truthy_bool ?_
  cases c with
  | false => exact hb pins s1 σ H1 Q I1 q1
  | true => exact ⟨.bl true, H1, I1, rfl, q1⟩
theorem pe_not (ha : PE X a ta) : PE X (.UnaryOp .Not a pos) (tNotV ta) := by
  intro pins s σ H Q I h
  refine UnaryOp_ (thn (ha pins s σ H _ I h) fun v s1 hq => ?_)
  obtain ⟨x, H1, I1, r1, q1⟩ := hq
  obtain ⟨c, rfl, q1⟩ := q1
  cases r1
  exact not_of (wpAny_truthy_bool ⟨.bl (!c), H1, I1, rfl, q1⟩)
/-- a if t else b -/
noncomputable def tIf (t : TT) (ta tb : TE) : TE := fun σ H Q => t σ H fun c H1 => if c = true then ta σ H1 Q else tb σ H1 Q
theorem pe_ifExp {c : Expr} (hc : PT X c tA) (ha : PE X a ta) (hb : PE X b tb) : PE X (.IfExp c a b pos) (tIf tA ta tb) := by
  intro pins s σ H Q I h
  refine wpAny_IfExp (thn (hc pins s σ H _ I h) fun d s1 hq => ?_)
  obtain ⟨H1, I1, q1⟩ := hq
  cases d with
  | true => exact ha pins s1 σ H1 Q I1 q1
  | false => exact hb pins s1 σ H1 Q I1 q1
end
end L2

namespace L2
open PySem PySem.Spec PyProof.Rows

/-! ### a list, a tuple that is read: tracked, frozen, or an object of the module -/
noncomputable def SqL (K : PySem.W.Frag) (H : Hp) (a : Addr) (xs : List V) : Prop :=
  Rd H a (.lst xs) ∨
    Ex3 fun (o : Obj) (its : Array Value) (n : Nat) => K.lookup a = some o ∧ o.cls = .type "list" ∧ o.dict = none ∧ o.data = .seq its n ∧ its.size ≤ sizeLine ∧ Vals xs its.toList
noncomputable def SqT (K : PySem.W.Frag) (H : Hp) (a : Addr) (xs : List V) : Prop :=
  Rd H a (.tup xs) ∨
    Ex3 fun (o : Obj) (its : Array Value) (n : Nat) => K.lookup a = some o ∧ o.cls = .type "tuple" ∧ o.data = .seq its n ∧ its.size ≤ sizeLine ∧ Vals xs its.toList
noncomputable def absV : Value → Option V
  | .none => some .non
  | .bool b => some (.bl b)
  | .int i _ => some (.int i)
  | .str x _ => some (.str x)
  | .bytes b _ => some (.byt b)
  | .float b _ => some (.flt b)
  | .ref a => some (.ref a)
  | .type n => some (.ty n)
  | _ => none
theorem RelV.abs {x : V} {u : Value} (r : RelV x u) : absV u = some x := by
  cases x with
  | non => cases r; rfl
  | bl _ => cases r; rfl
  | int _ => obtain ⟨t, rfl⟩ := r; rfl
  | str _ => obtain ⟨t, rfl⟩ := r; rfl
  | byt _ => obtain ⟨t, rfl⟩ := r; rfl
  | flt _ => obtain ⟨t, rfl⟩ := r; rfl
  | ref _ => cases r; rfl
  | ty _ => cases r; rfl
theorem RelV.inj {x y : V} {u : Value} (r : RelV x u) (q : RelV y u) : x = y := Option.some.inj (r.abs.symm.trans q.abs)
theorem Vals.inj {xs ys : List V} {us : List Value} (h : Vals xs us) (h2 : Vals ys us) : xs = ys := by
  induction h generalizing ys with
  | nil => cases h2; rfl
  | cons r t ih => cases h2 with | cons r' t' => rw [r.inj r', ih t']
section
variable {X : Cx} {pins : List (Addr × Obj)} {σ : St} {H : Hp} {s : Shared} {a : Addr} {xs ys : List V}
theorem SqL.of {K : PySem.W.Frag} (h : H a = some (.lst xs)) : SqL K H a xs := .inl (.inl h)
theorem SqT.of {K : PySem.W.Frag} (h : H a = some (.tup xs)) : SqT K H a xs := .inl (.inl h)
theorem Inv.list (I : Inv X pins σ H s) (h : SqL X.K H a xs) : ∃ its : List Value, Vals xs its ∧ PlainL s.heap a its.toArray ∧ xs.length ≤ sizeLine := by
  rcases h with h | ⟨o, its, n, hk, hc, hd, hs, hz, r⟩
  · obtain ⟨z, its, n, r, e⟩ := h.ok I.hok
    exact ⟨its, r, ⟨_, n, e, rfl, rfl, rfl⟩, z⟩
  · refine ⟨its.toList, r, ⟨o, n, I.kIn a o hk, hc, hd, by simpa using hs⟩, ?_⟩
    have e := r.length
    simp only [Array.length_toList] at e
    lia
theorem Inv.tuple (I : Inv X pins σ H s) (h : SqT X.K H a xs) : ∃ its : List Value, Vals xs its ∧ IsTup s.heap a its.toArray ∧ xs.length ≤ sizeLine := by
  rcases h with h | ⟨o, its, n, hk, hc, hs, hz, r⟩
  · obtain ⟨z, its, r, p⟩ := h.ok I.hok
    exact ⟨its, r, p, z⟩
  · refine ⟨its.toList, r, ⟨o, I.kIn a o hk, hc, n, by simpa using hs⟩, ?_⟩
    have e := r.length
    simp only [Array.length_toList] at e
    lia
theorem Inv.list_inj (I : Inv X pins σ H s) (h : SqL X.K H a xs) (h' : SqL X.K H a ys) : xs = ys := by
  obtain ⟨its, r, ⟨o, n, e, _, _, d⟩, _⟩ := I.list h
  obtain ⟨its', r', ⟨o', n', e', _, _, d'⟩, _⟩ := I.list h'
  rw [e] at e'; cases e'
  rw [d] at d'
  injection d' with d1 _
  have : its = its' := by simpa using congrArg Array.toList d1
  subst this
  exact r.inj r'
theorem Inv.tuple_inj (I : Inv X pins σ H s) (h : SqT X.K H a xs) (h' : SqT X.K H a ys) : xs = ys := by
  obtain ⟨its, r, ⟨o, e, _, n, d⟩, _⟩ := I.tuple h
  obtain ⟨its', r', ⟨o', e', _, n', d'⟩, _⟩ := I.tuple h'
  rw [e] at e'; cases e'
  rw [d] at d'
  injection d' with d1 _
  have : its = its' := by simpa using congrArg Array.toList d1
  subst this
  exact r.inj r'
end

/-! ### another wish about exceptions -/
noncomputable abbrev Cx.wish (X : Cx) (E : Value → Shared → Prop) : Cx := { X with xe := E }
/-- no exception leaves -/
noncomputable abbrev Cx.nox (X : Cx) : Cx := X.wish fun _ _ => False
theorem Cx.Ok.wish {X : Cx} (ok : X.Ok) (E : Value → Shared → Prop) : (X.wish E).Ok :=
  ⟨ok.mod, ok.kind, ok.glob, ok.blt, ok.above, ok.inj, ok.has, ok.cab, ok.hd, ok.frames, ok.stk, ok.exf, ok.bs, ok.bsz, ok.noex, ok.exfs, ok.funs, ok.frf⟩
theorem Cx.Ok.unwish {X : Cx} {E : Value → Shared → Prop} (ok : (X.wish E).Ok) : X.Ok :=
  ⟨ok.mod, ok.kind, ok.glob, ok.blt, ok.above, ok.inj, ok.has, ok.cab, ok.hd, ok.frames, ok.stk, ok.exf, ok.bs, ok.bsz, ok.noex, ok.exfs, ok.funs, ok.frf⟩
section
variable {X : Cx} {pins : List (Addr × Obj)} {σ : St} {H : Hp} {s : Shared} {E : Value → Shared → Prop}
theorem Inv.wish (I : Inv X pins σ H s) (E : Value → Shared → Prop) : Inv (X.wish E) pins σ H s := ⟨I.ok.wish E, I.os, I.bare, I.base, I.loc, I.cell, I.free, I.freeC, I.pin, I.hok, I.len⟩
theorem Inv.unwish (I : Inv (X.wish E) pins σ H s) : Inv X pins σ H s := ⟨I.ok.unwish, I.os, I.bare, I.base, I.loc, I.cell, I.free, I.freeC, I.pin, I.hok, I.len⟩
theorem SP.unwish {D : Ends} {f : Flow} {s' : Shared} (h : SP (X.wish E) pins D f s') : SP X pins D f s' := by
  cases f with
  | next => obtain ⟨σ', H', I, q⟩ := h; exact ⟨σ', H', I.unwish, q⟩
  | brk => obtain ⟨σ', H', I, q⟩ := h; exact ⟨σ', H', I.unwish, q⟩
  | cont => obtain ⟨σ', H', I, q⟩ := h; exact ⟨σ', H', I.unwish, q⟩
  | ret u => obtain ⟨v, σ', H', I, r, q⟩ := h; exact ⟨v, σ', H', I.unwish, r, q⟩
theorem PSs.nox {st : List Stmt} {t : TS} (h : PSs X.nox st t) : PSs X st t := fun pins s σ H D I hw =>
  wpAny_mono (h pins s σ H D (I.wish _) hw) (fun _ _ q => q.unwish) fun _ _ z => False.elim z
end

/-! ### blocks and small statements -/
section
variable {X : Cx} {st : Stmt} {rest : List Stmt} {t u : TS} {e : Expr} {te : TE} {pos : Pos}
noncomputable def tNext : TS := fun D σ H => D.nx σ H
noncomputable def tSeq (t u : TS) : TS := fun D σ H => t { D with nx := u D } σ H
theorem pss_nil : PSs X [] tNext := fun _ _ σ H _ I h => wpAny_execs_nil ⟨σ, H, I, h⟩
theorem pss_cons (h1 : PS X st t) (h2 : PSs X rest u) : PSs X (st :: rest) (tSeq t u) := by
  intro pins s σ H D I h
  refine wpAny_execs_cons (thn (h1 pins s σ H { D with nx := u D } I h) fun f s1 q => ?_)
  cases f with
  | next =>
    obtain ⟨σ', H', I', q⟩ := q
    exact h2 pins s1 σ' H' D I' q
  | ret v => exact q
  | brk => exact q
  | cont => exact q
theorem pss_one (h1 : PS X st t) : PSs X [st] t := by
  intro pins s σ H D I h
  refine wpAny_execs_cons (thn (h1 pins s σ H D I h) fun f s1 q => ?_)
  cases f with
  | next => exact wpAny_execs_nil q
  | ret v => exact q
  | brk => exact q
  | cont => exact q
/-- in a def's body nothing is shown -/
theorem Inv.quiet {pins : List (Addr × Obj)} {σ : St} {H : Hp} {s : Shared} (I : Inv X pins σ H s) : interactive X.env = false := by simp [interactive, I.ok.kind]
/-- an expression whose value is dropped -/
noncomputable def tDrop (te : TE) : TS := fun D σ H => te σ H fun _ H1 => D.nx σ H1
theorem ps_expr (he : PE X e te) (hs : swapsWith e none pos.line X.env = pure false := by rfl) : PS X (.Expr e pos) (tDrop te) := by
  intro pins s σ H D I h
  exact wpAny_Expr_any (thn (he pins s σ H _ I h) fun v s1 ⟨x, H1, I1, r1, q1⟩ => ⟨σ, H1, I1, q1⟩) I.quiet hs
noncomputable def tRet (te : TE) : TS := fun D σ H => te σ H D.rt
theorem ps_ret (he : PE X e te) : PS X (.Return (some e) pos) (tRet te) := by
  intro pins s σ H D I h
  exact wpAny_Return_some (thn (he pins s σ H _ I h) fun v s1 ⟨x, H1, I1, r1, q1⟩ => ⟨x, σ, H1, I1, r1, q1⟩)
noncomputable def tIfS (c : TT) (t u : TS) : TS := fun D σ H => c σ H fun b H1 => if b = true then t D σ H1 else u D σ H1
theorem ps_if {c : Expr} {a b : List Stmt} {tc : TT} (hc : PT X c tc) (ha : PSs X a t) (hb : PSs X b u) : PS X (.If c a b pos) (tIfS tc t u) := by
  intro pins s σ H D I h
  refine wpAny_If (thn (hc pins s σ H _ I h) fun d s1 hq => ?_)
  obtain ⟨H1, I1, q1⟩ := hq
  cases d with
  | true => exact ha pins s1 σ H1 D I1 q1
  | false => exact hb pins s1 σ H1 D I1 q1
end

/-! ### targets -/
noncomputable abbrev TG := V → St → Hp → (St → Hp → Prop) → Prop
noncomputable abbrev TGs := List V → St → Hp → (St → Hp → Prop) → Prop
noncomputable def PG (X : Cx) (target : Expr) (t : TG) : Prop :=
  ∀ (pins : List (Addr × Obj)) (s : Shared) (σ : St) (H : Hp) (v : V) (u : Value) (Q : St → Hp → Prop), Inv X pins σ H s → RelV v u → t v σ H Q →
    wpAny (model X.prog X.w) X.A (assign target X.env u) (fun _ s' => Ex2 fun σ' H' => Inv X pins σ' H' s' ∧ Q σ' H') X.xe s
/-- several targets, one after another -/
noncomputable def PGs (X : Cx) (ts : List Expr) (t : TGs) : Prop :=
  ∀ (pins : List (Addr × Obj)) (s : Shared) (σ : St) (H : Hp) (vs : List V) (us : List Value) (Q : St → Hp → Prop), Inv X pins σ H s → Vals vs us → t vs σ H Q →
    wpAny (model X.prog X.w) X.A (assignInOrder ((assignEach ts X.env).map (·.2)) us) (fun _ s' => Ex2 fun σ' H' => Inv X pins σ' H' s' ∧ Q σ' H') X.xe s
/-- o[i] = v, by values -/
noncomputable abbrev TSet := V → V → V → Hp → (Hp → Prop) → Prop
noncomputable def PSet (X : Cx) (t : TSet) : Prop :=
  ∀ (pins : List (Addr × Obj)) (s : Shared) (σ : St) (H : Hp) (o i v : V) (ov iv u : Value) (Q : Hp → Prop), Inv X pins σ H s → RelV o ov → RelV i iv → RelV v u → t o i v H Q →
    wpAny (model X.prog X.w) X.A (setItem ov iv u) (fun _ s' => ∃ H', Inv X pins σ H' s' ∧ Q H') X.xe s
/-- a op= b, by values -/
noncomputable abbrev TIp := V → V → Hp → VK → Prop
noncomputable def PIp (X : Cx) (op : Operator) (t : TIp) : Prop :=
  ∀ (pins : List (Addr × Obj)) (s : Shared) (σ : St) (H : Hp) (x y : V) (v u : Value) (Q : VK), Inv X pins σ H s → RelV x v → RelV y u → t x y H Q →
    wpAny (model X.prog X.w) X.A (inplaceOp op v u) (EP X pins σ Q) X.xe s
section
variable {X : Cx} {pos : Pos}
noncomputable def gName (i : Nat) : TG := fun v σ H Q => Q (σ.set i (some v)) H
theorem pg_name {i : Nat} {x : Str} (hN : X.N.Nodup) (hi : X.N[i]? = some x) (hx : Loc X.env.scope x) (hf : X.fn x = true ∨ X.env.scope.names.lookup x = some .local := by first | exact .inl rfl | exact .inr rfl | assumption) : PG X (.Name x pos) (gName i) := by
  intro pins s σ H v u Q I r h
  exact wpAny_assign_Name (store_ok I hN hi hx r (fun s' I' => ⟨_, H, I', h⟩) hf)
noncomputable def gNil : TGs := fun vs σ H Q => vs = [] ∧ Q σ H
inductive GCons (t : TG) (u : TGs) (vs : List V) (σ : St) (H : Hp) (Q : St → Hp → Prop) : Prop
  | mk (v : V) (r : List V) (e : vs = v :: r) (q : t v σ H fun σ' H' => u r σ' H' Q) : GCons t u vs σ H Q
noncomputable def gCons (t : TG) (u : TGs) : TGs := fun vs σ H Q => GCons t u vs σ H Q
theorem pgs_nil : PGs X [] gNil := by
  intro pins s σ H vs us Q I r h
  obtain ⟨e, h⟩ := h
  subst e
  cases r
  exact assignInOrder_nil ⟨σ, H, I, h⟩
theorem pgs_cons {e : Expr} {es : List Expr} {t : TG} {u : TGs} (h1 : PG X e t) (h2 : PGs X es u)
    (hs : (assignEach (e :: es) X.env).map (·.2) = assign e X.env :: (assignEach es X.env).map (·.2) := by rfl) : PGs X (e :: es) (gCons t u) := by
  intro pins s σ H vs us Q I r h
  obtain ⟨v, vr, e1, h⟩ := h
  subst e1
  cases r with
  | cons r rr =>
    rw [hs]
    refine assignInOrder_cons (thn (h1 pins s σ H _ _ _ I r h) fun _ s1 hq => ?_)
    obtain ⟨σ1, H1, I1, q1⟩ := hq
    exact h2 pins s1 σ1 H1 _ _ Q I1 rr q1
/-- (a, b, ..) = a tuple of that length -/
inductive GTup (K : PySem.W.Frag) (n : Nat) (t : TGs) (v : V) (σ : St) (H : Hp) (Q : St → Hp → Prop) : Prop
  | mk (a : Addr) (xs : List V) (e : v = .ref a) (h : SqT K H a xs) (l : xs.length = n) (q : t xs σ H Q) : GTup K n t v σ H Q
noncomputable def gTup (K : PySem.W.Frag) (n : Nat) (t : TGs) : TG := fun v σ H Q => GTup K n t v σ H Q
theorem pg_tup {es : List Expr} {k : Nat} {t : TGs} {n : Nat} (hc : X.calm = true) (h : PGs X es t)
    (hn : (assignEach es X.env).length = n := by rfl) (hst : (assignEach es X.env).findIdx? (·.1) = none := by rfl) : PG X (.Tuple es k pos) (gTup X.K n t) := by
  intro pins s σ H v u Q I r hw
  obtain ⟨a, xs, e1, hq, hl, hw⟩ := hw
  subst e1
  cases r
  obtain ⟨its, rv, ht, hz⟩ := I.tuple hq
  refine assign_Tuple_tuple (I.ok.hd hc) ht (by simp [hn, ← hl, rv.length]) hst fun h' hx => ?_
  have I1 : Inv X pins σ H { s with heap := h' } := I.kept (t' := s.toks) fun b o e => hx b o (Nat.ne_of_lt (Heap.lt_size e)) e
  exact h pins _ σ H xs _ Q I1 (by simpa using rv) hw
/-- o[i] = .. -/
noncomputable def gSub (to ti : TE) (t : TSet) : TG := fun v σ H Q => to σ H fun o H1 => ti σ H1 fun i H2 => t o i v H2 fun H3 => Q σ H3
theorem pg_sub {o i : Expr} {to ti : TE} {t : TSet} (ho : PE X o to) (hi : PE X i ti) (hs : PSet X t)
    (ha : ∀ v, assign (.Subscript o i pos) X.env v = (do
      let ov ← holding [v] (eval o X.env)
      let iv ← holding [v, ov] (eval i X.env)
      standAt pos
      holding [v, ov, iv] (setItem ov iv v)
      release [v, ov, iv] []) := by intro _; rfl) : PG X (.Subscript o i pos) (gSub to ti t) := by
  intro pins s σ H v u Q I r h
  rw [ha]
  refine wpAny_bind (wpAny_holding (thn (ho pins s σ H _ I h) fun ov s1 hq => ?_))
  obtain ⟨x, H1, I1, r1, q1⟩ := hq
  refine wpAny_bind (wpAny_holding (thn (hi pins s1 σ H1 _ I1 q1) fun iv s2 hq => ?_))
  obtain ⟨y, H2, I2, r2, q2⟩ := hq
  refine wpAny_bind (wpAny_standAt (wpAny_bind (wpAny_holding (thn (hs pins s2 σ H2 x y v ov iv u _ I2 r1 r2 r q2) fun _ s3 hq => ?_))))
  obtain ⟨H3, I3, q3⟩ := hq
  exact wpAny_release ⟨σ, H3, I3, q3⟩
/-- target = value -/
noncomputable def tAsg (te : TE) (g : TG) : TS := fun D σ H => te σ H fun x H1 => g x σ H1 D.nx
theorem ps_asg {tg e : Expr} {te : TE} {g : TG} (he : PE X e te) (hg : PG X tg g) (hs : swapsWithSole [tg] e pos.line X.env = pure false := by rfl) (hw : swappedStores [tg] e X.env = pure none := by rfl)
    (h1 : (assignEach [tg] X.env).map (·.2) = [assign tg X.env] := by rfl) : PS X (.Assign [tg] e pos) (tAsg te g) := by
  intro pins s σ H D I h
  refine wpAny_Assign_stores (thn (he pins s σ H _ I h) fun v s1 ⟨x, H1, I1, r1, q1⟩ => ?_) hs hw
  rw [h1]
  exact thn (hg pins s1 σ H1 x v _ I1 r1 q1) fun _ s2 q => q
/-- name = value -/
theorem ps_set {i : Nat} {x : Str} {e : Expr} {te : TE} {pos' : Pos} (hN : X.N.Nodup) (hi : X.N[i]? = some x) (hx : Loc X.env.scope x) (he : PE X e te) (hs : swapsWith e (some (.Name x pos')) pos.line X.env = pure false := by rfl) (hf : X.fn x = true ∨ X.env.scope.names.lookup x = some .local := by first | exact .inl rfl | exact .inr rfl | assumption) :
    PS X (.Assign [.Name x pos'] e pos) (tAsg te (gName i)) := by
  intro pins s σ H D I h
  refine wpAny_Assign_Name (thn (he pins s σ H _ I h) fun v s1 ⟨y, H1, I1, r1, q1⟩ => ?_) hs
  exact store_ok I1 hN hi hx r1 (fun s2 I2 => ⟨_, H1, I2, q1⟩) hf
/-- a, b = x, y with plain local names: stored from the right; the pair itself is not tracked (the opening rows as in PyProof/Rows/TupAssign.lean:23) -/
inductive GPar (i j : Nat) (D : Ends) (vs : List V) (σ : St) (H : Hp) : Prop
  | mk (v w : V) (e : vs = [v, w]) (q : D.nx ((σ.set i (some v)).set j (some w)) H) : GPar i j D vs σ H
noncomputable def tPar (i j : Nat) (ta : TA) : TS := fun D σ H => ta σ H fun vs H1 => GPar i j D vs σ H1
theorem ps_par {i j : Nat} {x y : Str} {a b : Expr} {ta : TA} {px py pt : Pos} {kt k2 pt2} (hc : X.calm = true) (hN : X.N.Nodup) (hi : X.N[i]? = some x) (hj : X.N[j]? = some y) (hij : i ≠ j)
    (hx : X.env.scope.names.lookup x = some .local) (hy : X.env.scope.names.lookup y = some .local) (ha : PA X [a, b] ta)
    (hw : swappedStores [.Tuple [.Name x px, .Name y py] kt pt] (.Tuple [a, b] k2 pt2) X.env = pure (some [x, y]))
    (hs : swapsWithSole [.Tuple [.Name x px, .Name y py] kt pt] (.Tuple [a, b] k2 pt2) pos.line X.env = pure false := by rfl) :
    PS X (.Assign [.Tuple [.Name x px, .Name y py] kt pt] (.Tuple [a, b] k2 pt2) pos) (tPar i j ta) := by
  intro pins s σ H D I h
  rw [exec_Assign_arm]
  refine wpAny_bind (wpAny_standAt ?_)
  rw [hs]
  refine wpAny_bind (wpAny_pure ?_)
  rw [if_neg (by decide)]
  refine wpAny_bind (Tuple_ (thn (ha _ pins s σ H _ I h) fun us s1 hq => ?_))
  obtain ⟨vs, H1, I1, r1, q1⟩ := hq
  obtain ⟨v, w, e1, q1⟩ := q1
  subst e1
  obtain ⟨u1, u2, rfl, rv, rw'⟩ : Ex2 fun u1 u2 => us = [u1, u2] ∧ RelV v u1 ∧ RelV w u2 := by
    cases r1 with
    | cons p q =>
      cases q with
      | cons p' q' =>
        cases q'
        exact ⟨_, _, rfl, p, p'⟩
  refine wpAny_newObj_type ?_ (by show 2 ≤ sizeLine; decide)
  have I2 : Inv X pins σ H1 { s1 with heap := s1.heap.push { cls := .type "tuple", data := .seq [u1, u2].toArray } } := I1.kept (t' := s1.toks) fun b o e => Heap.get?_push_of_some _ e
  rw [hw]
  refine wpAny_bind (wpAny_pure ?_)
  show wpAny (model X.prog X.w) X.A (do rule "assign.swapped-stores"; let items ← unpackItems (.ref s1.heap.objs.size) 2 none; assignInOrder [fun v => bindName X.env y v, fun v => bindName X.env x v] items.reverse; pure Flow.next) _ _ _
  refine wpAny_bind (wpAny_rule (wpAny_bind (unpackItems_tuple (items := #[u1, u2]) (I.ok.hd hc) (IsTup.new s1.heap _) fun h' hx' => ?_)))
  have I3 := I2.kept (h' := h') (t' := s1.toks) fun b o e => hx' b o (Nat.ne_of_lt (Heap.lt_size e)) e
  show wpAny _ _ (assignInOrder [fun v => bindName X.env y v, fun v => bindName X.env x v] [u2, u1] >>= fun _ => pure Flow.next) _ _ _
  refine wpAny_bind (assignInOrder_cons (wpAny_bindName (store_ok I3 hN hj (.inl hy) rw' (fun s2 I4 => ?_) (.inr hy))))
  refine assignInOrder_cons (wpAny_bindName (store_ok I4 hN hi (.inl hx) rv (fun s3 I5 => assignInOrder_nil (wpAny_pure ?_)) (.inr hx)))
  rw [List.set_comm _ _ (Ne.symm hij)] at I5
  exact ⟨_, H1, I5, q1⟩
/-- name op= e -/
noncomputable def tAug (i : Nat) (te : TE) (ti : TIp) : TS := fun D σ H => ∃ x, σ[i]? = some (some x) ∧ te σ H fun y H1 => ti x y H1 fun z H2 => D.nx (σ.set i (some z)) H2
theorem ps_aug {i : Nat} {x : Str} {e : Expr} {te : TE} {op : Operator} {ti : TIp} {pos' : Pos} (hN : X.N.Nodup) (hi : X.N[i]? = some x) (hx : Loc X.env.scope x) (he : PE X e te) (ho : PIp X op ti) (hf : X.fn x = true ∨ X.env.scope.names.lookup x = some .local := by first | exact .inl rfl | exact .inr rfl | assumption) :
    PS X (.AugAssign (.Name x pos') op e pos) (tAug i te ti) := by
  intro pins s σ H D I h
  obtain ⟨v, e1, h⟩ := h
  obtain ⟨m, hn, hl⟩ := I.loc
  have vis : Vis X.env.scope x := by rcases hx with k | k; exact .inl k; exact .inr (.inl k)
  obtain ⟨u, r, l⟩ := hl i x v hi e1 vis
  refine wpAny_AugAssign_Name ?_
  have go : wpAny (model X.prog X.w) X.A (eval e X.env) (fun w s₂ => wpAny (model X.prog X.w) X.A (inplaceOp op u w) (fun r s₃ => wpAny (model X.prog X.w) X.A (storeName X.env x r) (fun _ => SP X pins D .next) X.xe s₃) X.xe s₂) X.xe s := by
    refine thn (he pins s σ H _ I h) fun w s1 hq => ?_
    obtain ⟨y, H1, I1, r1, q1⟩ := hq
    refine thn (ho pins s1 σ H1 v y u w _ I1 r r1 q1) fun z s2 hq => ?_
    obtain ⟨zv, H2, I2, r2, q2⟩ := hq
    exact store_ok I2 hN hi hx r2 (fun s3 I3 => ⟨_, H2, I3, q2⟩) hf
  rcases l with ⟨hk, hm⟩ | ⟨hk, c, hc, hcell⟩
  · exact wpAny_loadName_local I.ok.kind hk hn hm go
  · rcases hk with hk | hk
    · exact wpAny_loadName_cell I.ok.kind hk hc hcell go
    · rcases hx with k | k
      · have : X.env.scope.names.lookup x = some .free := hk
        rw [k] at this; cases this
      · have : X.env.scope.names.lookup x = some .free := hk
        rw [k] at this; cases this
end

/-! ### while -/
section
variable {X : Cx} {pos : Pos}
/-- the invariant W with its measure -/
noncomputable def tWhile (c : TT) (tb : TS) : TS := fun D σ H => ∃ W : Nat → St → Hp → Prop, (∃ m, W m σ H) ∧ ∀ m σ H, W m σ H →
  c σ H fun b H1 => if b = true then ∃ N : St → Hp → Prop, (∀ σ' H', N σ' H' → ∃ m', m' < m ∧ W m' σ' H') ∧ tb { D with nx := N, ct := N, bk := D.nx } σ H1 else D.nx σ H1
theorem ps_while {c : Expr} {body : List Stmt} {tc : TT} {tb : TS} (hp : PassesOwn (model X.prog X.w) X.A X.env X.xe) (hc : PT X c tc) (hb : PSs X body tb) : PS X (.While c body [] pos) (tWhile tc tb) := by
  intro pins s σ H D I h
  obtain ⟨W, ⟨m0, w0⟩, turn⟩ := h
  refine wpAny_While (codeAny_whileLoop (fun n s' => Ex2 fun σ' H' => Inv X pins σ' H' s' ∧ W n σ' H') ?_ m0 ⟨σ, H, I, w0⟩)
  rintro n s1 ⟨σ1, H1, I1, w1⟩
  refine wpAny_passesOwn hp (thn (hc pins s1 σ1 H1 _ I1 (turn n σ1 H1 w1)) fun b s2 hq => ?_)
  obtain ⟨H2, I2, q2⟩ := hq
  cases b with
  | true =>
    obtain ⟨N, hN, q2⟩ := q2
    rw [if_pos rfl]
    refine wpAny_passesOwn hp (thn (hb pins s2 σ1 H2 _ I2 q2) fun f s3 q3 => ?_)
    cases f with
    | next =>
      obtain ⟨σ3, H3, I3, n3⟩ := q3
      obtain ⟨m', hm, w3⟩ := hN σ3 H3 n3
      exact ⟨m', hm, σ3, H3, I3, w3⟩
    | cont =>
      obtain ⟨σ3, H3, I3, n3⟩ := q3
      obtain ⟨m', hm, w3⟩ := hN σ3 H3 n3
      exact ⟨m', hm, σ3, H3, I3, w3⟩
    | brk => exact q3
    | ret v => exact q3
  | false =>
    rw [if_neg Bool.false_ne_true]
    exact wpAny_execs_nil ⟨σ1, H2, I2, q2⟩
end

/-! ### what a loop or a comprehension walks -/
/-- at turn i: it yields x (the heap may grow), or it stops -/
structure It where
  go : Nat → Hp → Prop
  yld : Nat → Hp → V → Hp → Prop
  stop : Nat → Hp → Prop
/-- the iterator's own objects may turn: they are not the frame's, not pinned, younger than the entry (or a comprehension's own) -/
noncomputable def FpOk (X : Cx) (pins : List (Addr × Obj)) (H : Hp) (b : Addr) : Prop :=
  H b = none ∧ b ≠ X.env.locals ∧ b ∉ X.fs ∧ (b ∈ X.ex ∨ X.s₀.heap.objs.size ≤ b) ∧ (∀ x c, X.env.cells.lookup x = some c → c ≠ b) ∧ ∀ p ∈ X.pn ++ pins, p.1 ≠ b
theorem Inv.fpOk {X : Cx} {pins : List (Addr × Obj)} {σ : St} {H H' : Hp} {s : Shared} {b : Addr} (I : Inv X pins σ H s) (hb : s.heap.objs.size ≤ b) (hn : H' b = none) : FpOk X pins H' b := by
  refine ⟨hn, Nat.ne_of_gt (Nat.lt_of_lt_of_le I.lt hb), I.nofs hb, .inr (Nat.le_trans I.sz hb), fun x c e z => ?_, fun p hp z => ?_⟩
  · obtain ⟨v, q⟩ := I.cell x c e
    exact absurd (Nat.lt_of_lt_of_le q.lt (by rw [z]; exact hb)) (Nat.lt_irrefl _)
  · exact absurd (Nat.lt_of_lt_of_le (Heap.lt_size (I.pin p hp).1) (by rw [z]; exact hb)) (Nat.lt_irrefl _)
structure Turn (P : Program) (w : World) (K : PySem.W.Frag) (tg : Expr) (J : It) (fp : List Addr) (it : Addr) (tn : Nat → Heap → Prop) : Prop where
  mem : it ∈ fp
  obj : ∀ i h, tn i h → ∀ b ∈ fp, ∃ o, h.get? b = some o ∧ ∀ v, o.data ≠ .cell v
  keep : ∀ i h h', tn i h → (∀ b ∈ fp, ∀ o, h.get? b = some o → h'.get? b = some o) → tn i h'
  item : ∀ (X : Cx), X.prog = P → X.w = w → X.K = K → X.calm = true → ∀ (i : Nat) (pins : List (Addr × Obj)) (s : Shared) (σ : St) (H : Hp) (E : Value → Shared → Prop), Inv X pins σ H s → (∀ b ∈ fp, FpOk X pins H b) → tn i s.heap → J.go i H →
    wpAny (model P w) X.A (pyNext (.ref it)) (fun r s1 => ∃ u, r = some u ∧
      wpAny (model P w) X.A (letOwnedTupleGo tg (.ref it) u) (fun _ s2 => Ex2 fun x H' => Inv X pins σ H' s2 ∧ RelV x u ∧ J.yld i H x H' ∧ tn (i + 1) s2.heap ∧ ∀ b ∈ fp, H' b = none) E s1) E s
  done : ∀ (X : Cx), X.prog = P → X.w = w → X.K = K → X.calm = true → ∀ (i : Nat) (pins : List (Addr × Obj)) (s : Shared) (σ : St) (H : Hp) (E : Value → Shared → Prop), Inv X pins σ H s → (∀ b ∈ fp, FpOk X pins H b) → tn i s.heap → J.stop i H →
    wpAny (model P w) X.A (pyNext (.ref it)) (fun r s1 => r = none ∧ Inv X pins σ H s1) E s
  self : ∀ (A : Around) (i : Nat) (s : Shared) (Q : Value → Shared → Prop) (E : Value → Shared → Prop), tn i s.heap → Q (.ref it) s → wpAny (model P w) A (pyIter (.ref it)) Q E s
noncomputable abbrev TI := St → Hp → (It → Hp → Prop) → Prop
/-- an iterator has come -/
noncomputable def PIE (X : Cx) (pins : List (Addr × Obj)) (σ : St) (tg : Expr) (R : It → Hp → Prop) (itv : Value) (s2 : Shared) : Prop :=
  Ex5 fun (it : Addr) (fp : List Addr) (tn : Nat → Heap → Prop) (J : It) (H' : Hp) => itv = .ref it ∧ Inv X pins σ H' s2 ∧ Turn X.prog X.w X.K tg J fp it tn ∧ tn 0 s2.heap ∧ (∀ b ∈ fp, FpOk X pins H' b) ∧ R J H'
noncomputable def PI (X : Cx) (tg iter : Expr) (wi : TI) : Prop :=
  ∀ (pins : List (Addr × Obj)) (s : Shared) (σ : St) (H : Hp) (R : It → Hp → Prop), Inv X pins σ H s → wi σ H R →
    wpAny (model X.prog X.w) X.A (eval iter X.env) (fun v s1 => wpAny (model X.prog X.w) X.A (pyIter v) (PIE X pins σ tg R) X.xe s1) X.xe s

/-- the step ahead of the store is nothing for an iterator that keeps no tuple -/
theorem go_of {M : Model} {A : Around} {E : Value → Shared → Prop} {s : Shared} {tg : Expr} {it : Addr} {u : Value} {o : Obj} {n : String} {vs : Array Value} {Q : Unit → Shared → Prop} (ho : s.heap.get? it = some o) (hc : o.cls = .type n) (hd : o.data = .fields vs)
    (hn : ["enumerate", "zip", "dict_itemiterator", "dict_reverseitemiterator", "odict_iterator", "itertools.zip_longest", "itertools.pairwise"].contains n = false) (hQ : Q () s) : wpAny M A (letOwnedTupleGo tg (.ref it) u) Q E s := by
  unfold letOwnedTupleGo
  cases tg <;> first
    | exact wpAny_pure hQ
    | (cases u <;> first
        | exact wpAny_pure hQ
        | (refine wpAny_bind (wpAny_load ho ?_)
           rw [hc, hd]
           show wpAny M A (if (["enumerate", "zip", "dict_itemiterator", "dict_reverseitemiterator", "odict_iterator", "itertools.zip_longest", "itertools.pairwise"].contains n && vs[0]? == some (rawInt _)) = true then _ else _) Q E s
           rw [if_neg (by intro h; rw [hn, Bool.false_and] at h; cases h)]
           exact wpAny_pure hQ))

/-- the list at a, as it stands at each turn (a loop may append to it) -/
noncomputable def Itl (K : PySem.W.Frag) (a : Addr) : It :=
  ⟨fun i H => Ex2 fun xs x => SqL K H a xs ∧ xs[i]? = some x, fun i H x H' => H' = H ∧ ∀ xs, SqL K H a xs → xs[i]? = some x, fun i H => ∃ xs, SqL K H a xs ∧ xs.length ≤ i⟩
noncomputable def Itt (K : PySem.W.Frag) (a : Addr) : It :=
  ⟨fun i H => Ex2 fun xs x => SqT K H a xs ∧ xs[i]? = some x, fun i H x H' => H' = H ∧ ∀ xs, SqT K H a xs → xs[i]? = some x, fun i H => ∃ xs, SqT K H a xs ∧ xs.length ≤ i⟩
/-- lo, lo + 1, .. (n of them) -/
noncomputable def Itr (lo : Int) (n : Nat) : It := ⟨fun i _ => i < n, fun i H x H' => H' = H ∧ x = .int (lo + i), fun i _ => n ≤ i⟩
theorem turn_list {P : Program} {w : World} {K : PySem.W.Frag} {tg : Expr} (a it : Addr) : Turn P w K tg (Itl K a) [it] it (fun i h => h.IsListIter it a i) where
  mem := by simp
  obj := fun i h st b hb => by
    have e : b = it := by simpa using hb
    subst e
    obtain ⟨o, e, c, d⟩ := st
    exact ⟨o, e, fun v z => by rw [d] at z; cases z⟩
  keep := fun i h h' st k => st.at fun o e => k it (by simp) o e
  item := by
    intro X hP hw hK hc i pins s σ H E I hf st hg
    subst hP hw hK
    obtain ⟨xs, x, hq, hx⟩ := hg
    obtain ⟨its, rv, p, hz⟩ := I.list hq
    obtain ⟨u, hu, ru⟩ := rv.get hx
    obtain ⟨f0, f1, f2, f3, f4, f5⟩ := hf it (by simp)
    refine wpAny_pyNext_list_item st p.isList (x := u) (by simpa using hu) fun h' st' sb => ?_
    have I1 : Inv X pins σ H { s with heap := h' } := I.turned (t' := s.toks) (fun b o hb e => (sb.2 b hb).trans e) f0 f1 f3 f4 f5
    obtain ⟨o, e, c, d⟩ := id st'
    exact ⟨u, rfl, go_of (s := { s with heap := h' }) e c d (by decide) ⟨x, H, I1, ru, ⟨rfl, fun ys hy => by rw [I.list_inj hy hq]; exact hx⟩, st', fun b hb => (hf b hb).1⟩⟩
  done := by
    intro X hP hw hK hc i pins s σ H E I hf st hg
    subst hP hw hK
    obtain ⟨xs, hq, hx⟩ := hg
    obtain ⟨its, rv, p, hz⟩ := I.list hq
    obtain ⟨f0, f1, f2, f3, f4, f5⟩ := hf it (by simp)
    have hl := rv.length
    exact wpAny_pyNext_list_end (I.ok.hd hc) st p.isList (by simp; lia) fun h' eb => ⟨rfl, I.turned (t' := s.toks) (fun b o hb e => eb b o hb e) f0 f1 f3 f4 f5⟩
  self := fun _ _ _ _ _ st h => wpAny_pyIter_listiter st h
theorem turn_tuple {P : Program} {w : World} {K : PySem.W.Frag} {tg : Expr} (a it : Addr) : Turn P w K tg (Itt K a) [it] it (fun i h => h.IsTupleIter it a i) where
  mem := by simp
  obj := fun i h st b hb => by
    have e : b = it := by simpa using hb
    subst e
    obtain ⟨o, e, c, d⟩ := st
    exact ⟨o, e, fun v z => by rw [d] at z; cases z⟩
  keep := fun i h h' st k => st.at fun o e => k it (by simp) o e
  item := by
    intro X hP hw hK hc i pins s σ H E I hf st hg
    subst hP hw hK
    obtain ⟨xs, x, hq, hx⟩ := hg
    obtain ⟨its, rv, p, hz⟩ := I.tuple hq
    obtain ⟨u, hu, ru⟩ := rv.get hx
    obtain ⟨f0, f1, f2, f3, f4, f5⟩ := hf it (by simp)
    refine wpAny_pyNext_tuple_item st (show s.heap.IsTuple a its.toArray from p) (x := u) (by simpa using hu) fun h' st' sb => ?_
    have I1 : Inv X pins σ H { s with heap := h' } := I.turned (t' := s.toks) (fun b o hb e => (sb.2 b hb).trans e) f0 f1 f3 f4 f5
    obtain ⟨o, e, c, d⟩ := id st'
    exact ⟨u, rfl, go_of (s := { s with heap := h' }) e c d (by decide) ⟨x, H, I1, ru, ⟨rfl, fun ys hy => by rw [I.tuple_inj hy hq]; exact hx⟩, st', fun b hb => (hf b hb).1⟩⟩
  done := by
    intro X hP hw hK hc i pins s σ H E I hf st hg
    subst hP hw hK
    obtain ⟨xs, hq, hx⟩ := hg
    obtain ⟨its, rv, p, hz⟩ := I.tuple hq
    obtain ⟨f0, f1, f2, f3, f4, f5⟩ := hf it (by simp)
    have hl := rv.length
    exact wpAny_pyNext_tuple_end (I.ok.hd hc) st (show s.heap.IsTuple a its.toArray from p) (by simp; lia) fun h' eb => ⟨rfl, I.turned (t' := s.toks) (fun b o hb e => eb b o hb e) f0 f1 f3 f4 f5⟩
  self := fun _ _ _ _ _ st h => wpAny_pyIter_tupleiter st h
theorem turn_range {P : Program} {w : World} {K : PySem.W.Frag} {tg : Expr} (it : Addr) (lo : Int) (n : Nat) : Turn P w K tg (Itr lo n) [it] it (fun i h => IsRangeIter h it (lo + (i : Nat) * 1) ((n : Int) - (i : Nat)) 1) where
  mem := by simp
  obj := fun i h st b hb => by
    have e : b = it := by simpa using hb
    subst e
    exact ⟨_, st, fun v z => by
      have z' : Data.fields _ = Data.cell v := z
      cases z'⟩
  keep := fun i h h' st k => k it (by simp) _ st
  item := by
    intro X hP hw hK hc i pins s σ H E I hf st hg
    subst hP hw hK
    obtain ⟨f0, f1, f2, f3, f4, f5⟩ := hf it (by simp)
    have W := Walks.range (prog := X.prog) (w := X.w) (I.ok.hd hc) it lo 1 n
    refine W.item i s _ _ hg st fun v h' tk hv st' kk => ?_
    obtain ⟨t, rfl⟩ := hv
    have I1 : Inv X pins σ H { s with heap := h', toks := tk } := I.turned (fun b o hb e => kk b o (by simpa using hb) e) f0 f1 f3 f4 f5
    refine ⟨_, rfl, go_of (s := { s with heap := h', toks := tk }) (n := "range_iterator") st' rfl rfl (by decide) ⟨.int (lo + i), H, I1, ⟨t, ?_⟩, ⟨rfl, rfl⟩, st', fun b hb => (hf b hb).1⟩⟩
    rw [Int.mul_one]
  done := by
    intro X hP hw hK hc i pins s σ H E I hf st hg
    subst hP hw hK
    obtain ⟨f0, f1, f2, f3, f4, f5⟩ := hf it (by simp)
    exact wpAny_pyNext_range_end (I.ok.hd hc) st (by have : n ≤ i := hg; lia) fun h' eb => ⟨rfl, I.turned (t' := s.toks) (fun b o hb e => eb b o hb e) f0 f1 f3 f4 f5⟩
  self := fun _ _ _ _ _ st h => wpAny_pyIter_rangeiter st h
end L2

namespace L2
open PySem PySem.Spec PyProof.Rows
section
variable {X : Cx} {tg : Expr}
inductive GItl (K : PySem.W.Frag) (x : V) (H : Hp) (R : It → Hp → Prop) : Prop
  | mk (a : Addr) (e : x = .ref a) (h : ∃ xs, SqL K H a xs) (q : R (Itl K a) H) : GItl K x H R
inductive GItt (K : PySem.W.Frag) (x : V) (H : Hp) (R : It → Hp → Prop) : Prop
  | mk (a : Addr) (e : x = .ref a) (h : ∃ xs, SqT K H a xs) (q : R (Itt K a) H) : GItt K x H R
noncomputable def iList (K : PySem.W.Frag) (tl : TE) : TI := fun σ H R => tl σ H fun x H1 => GItl K x H1 R
noncomputable def iTup (K : PySem.W.Frag) (tl : TE) : TI := fun σ H R => tl σ H fun x H1 => GItt K x H1 R
theorem pi_list {l : Expr} {tl : TE} (hl : PE X l tl) : PI X tg l (iList X.K tl) := by
  intro pins s σ H R I h
  refine thn (hl pins s σ H _ I h) fun v s1 hq => ?_
  obtain ⟨x, H1, I1, r1, q1⟩ := hq
  obtain ⟨a, e, ⟨xs, hq⟩, q⟩ := q1
  subst e
  cases r1
  obtain ⟨its, rv, p, hz⟩ := I1.list hq
  refine wpAny_pyIter_list p.isList ?_
  refine ⟨s1.heap.objs.size, [s1.heap.objs.size], _, _, H1, rfl, I1.kept (t' := s1.toks) fun b o e => Heap.get?_push_of_some _ e, turn_list a _, ⟨_, Heap.get?_push_size _ rfl, rfl, rfl⟩, fun b hb => ?_, q⟩
  have e : b = s1.heap.objs.size := by simpa using hb
  subst e
  exact I1.fpOk (Nat.le_refl _) (I1.hok.fresh (Nat.le_refl _))
theorem pi_tup {l : Expr} {tl : TE} (hl : PE X l tl) : PI X tg l (iTup X.K tl) := by
  intro pins s σ H R I h
  refine thn (hl pins s σ H _ I h) fun v s1 hq => ?_
  obtain ⟨x, H1, I1, r1, q1⟩ := hq
  obtain ⟨a, e, ⟨xs, hq⟩, q⟩ := q1
  subst e
  cases r1
  obtain ⟨its, rv, p, hz⟩ := I1.tuple hq
  refine wpAny_pyIter_tuple (show s1.heap.IsTuple a its.toArray from p) ?_
  refine ⟨s1.heap.objs.size, [s1.heap.objs.size], _, _, H1, rfl, I1.kept (t' := s1.toks) fun b o e => Heap.get?_push_of_some _ e, turn_tuple a _, ⟨_, Heap.get?_push_size _ rfl, rfl, rfl⟩, fun b hb => ?_, q⟩
  have e : b = s1.heap.objs.size := by simpa using hb
  subst e
  exact I1.fpOk (Nat.le_refl _) (I1.hok.fresh (Nat.le_refl _))
/-- a range object just made, walked -/
theorem range_it {pins : List (Addr × Obj)} {σ : St} {H : Hp} {s : Shared} {R : It → Hp → Prop} {E : Value → Shared → Prop} {lo hi : Int} {t u v : Tok} {tk : Nat} (I : Inv X pins σ H s) (h1 : -(2 ^ 62) ≤ lo) (h2 : lo < 2 ^ 62) (h3 : -(2 ^ 62) ≤ hi) (h4 : hi < 2 ^ 62)
    (q : R (Itr lo (hi - lo).toNat) H) : wpAny (model X.prog X.w) X.A (pyIter (.ref s.heap.objs.size)) (PIE X pins σ tg R) E { s with heap := s.heap.push { cls := .type "range", data := .fields #[.int lo t, .int hi u, .int 1 v] }, toks := tk } := by
  refine wpAny_pyIter_range (IsRange.new ..) (small_one h1 h2 h3 h4) ?_
  have I1 : Inv X pins σ H { s with heap := s.heap.push { cls := .type "range", data := .fields #[.int lo t, .int hi u, .int 1 v] }, toks := tk } := I.kept fun b o e => Heap.get?_push_of_some _ e
  refine ⟨(s.heap.push { cls := .type "range", data := .fields #[.int lo t, .int hi u, .int 1 v] }).objs.size, [(s.heap.push { cls := .type "range", data := .fields #[.int lo t, .int hi u, .int 1 v] }).objs.size], _, _, H, rfl,
    I1.kept (t' := tk) fun b o e => Heap.get?_push_of_some _ e, turn_range _ lo (hi - lo).toNat, ?_, fun b hb => ?_, q⟩
  · have e1 : lo + ((0 : Nat) : Int) * 1 = lo := by simp
    have e2 : (((hi - lo).toNat : Nat) : Int) - ((0 : Nat) : Int) = Builtin.Range.rangeSize lo hi 1 := by rw [rangeSize_one]; split <;> lia
    show IsRangeIter _ _ (lo + ((0 : Nat) : Int) * 1) ((((hi - lo).toNat : Nat) : Int) - ((0 : Nat) : Int)) 1
    rw [e1, e2]
    exact Heap.get?_push_size _ rfl
  · have e : b = (s.heap.push { cls := .type "range", data := .fields #[.int lo t, .int hi u, .int 1 v] }).objs.size := by simpa using hb
    subst e
    exact I1.fpOk (Nat.le_refl _) (I1.hok.fresh (Nat.le_refl _))
inductive GRng (vs : List V) (H : Hp) (R : It → Hp → Prop) : Prop
  | mk (j : Int) (e : vs = [.int j]) (a : -(2 ^ 62) ≤ j) (b : j < 2 ^ 62) (q : R (Itr 0 j.toNat) H) : GRng vs H R
noncomputable def iRng1 (ta : TA) : TI := fun σ H R => ta σ H fun vs H1 => GRng vs H1 R
noncomputable def iRng2 (ta : TA) : TI := fun σ H R => ta σ H fun vs H1 => Ex2 fun (i j : Int) => vs = [.int i, .int j] ∧ (-(2 ^ 62) ≤ i ∧ i < 2 ^ 62 ∧ -(2 ^ 62) ≤ j ∧ j < 2 ^ 62) ∧ R (Itr i (j - i).toNat) H1
theorem pi_range1 {a : Expr} {ta : TA} {p pos : Pos} (hg : Gl X "range") (hm : X.mg "range" = none) (ha : PA X [a] ta) (hs : starEach [a] X.env = [(false, eval a X.env)] := by rfl) : PI X tg (.Call (.Name "range" p) [a] [] pos) (iRng1 ta) := by
  intro pins s σ H R I h
  refine Call_ (ld_blt I hg hm boot_range (PyProof.Rows.callWith_type1 (thn (ha pos pins s σ H _ I h) fun us s1 ⟨vs, H1, I1, r1, q1⟩ => ?_) hs rfl))
  obtain ⟨j, e, q1, q2, q⟩ := q1
  subst e
  cases r1 with
  | cons r rr =>
    cases rr
    obtain ⟨t, rfl⟩ := r
    exact call_range_1 (range_it I1 (by lia) (by lia) q1 q2 (by simpa using q))
theorem pi_range2 {a b : Expr} {ta : TA} {p pos : Pos} (hg : Gl X "range") (hm : X.mg "range" = none) (ha : PA X [a, b] ta) (hs : starEach [a, b] X.env = [(false, eval a X.env), (false, eval b X.env)] := by rfl) (hs2 : starEach [b] X.env = [(false, eval b X.env)] := by rfl) :
    PI X tg (.Call (.Name "range" p) [a, b] [] pos) (iRng2 ta) := by
  intro pins s σ H R I h
  refine Call_ (ld_blt I hg hm boot_range (PyProof.Rows.callWith_type1 (thn (ha pos pins s σ H _ I h) fun us s1 ⟨vs, H1, I1, r1, q1⟩ => ?_) (by rw [hs, hs2]) (by rw [hs2]; rfl)))
  obtain ⟨i, j, e, ⟨q1, q2, q3, q4⟩, q⟩ := q1
  subst e
  cases r1 with
  | cons r rr =>
    cases rr with
    | cons r' rr =>
      cases rr
      obtain ⟨t, rfl⟩ := r
      obtain ⟨t', rfl⟩ := r'
      exact call_range_2 (range_it I1 q1 q2 q3 q4 q)

/-! ### for -/
/-- W: the invariant by the turn and a measure; N: what the body is to reach -/
noncomputable def tFor (wi : TI) (g : TG) (tb : TS) : TS := fun D σ H => wi σ H fun J H1 => ∃ W : Nat → Nat → St → Hp → Prop, (∃ m, W 0 m σ H1) ∧ ∀ i m σ H, W i m σ H →
  (J.stop i H ∧ D.nx σ H) ∨ (J.go i H ∧ ∃ N : St → Hp → Prop, (∀ σ' H', N σ' H' → ∃ m', m' < m ∧ W (i + 1) m' σ' H') ∧ ∀ x H', J.yld i H x H' → g x σ H' fun σ2 H2 => tb { D with nx := N, ct := N, bk := D.nx } σ2 H2)
/-- the records at fp as they stand -/
noncomputable def pinsAt (fp : List Addr) (h : Heap) : List (Addr × Obj) := fp.filterMap fun b => (h.get? b).map fun o => (b, o)
theorem mem_pinsAt {fp : List Addr} {h : Heap} {b : Addr} {o : Obj} (hb : b ∈ fp) (e : h.get? b = some o) : (b, o) ∈ pinsAt fp h := List.mem_filterMap.mpr ⟨b, hb, by rw [e]; rfl⟩
theorem of_pinsAt {fp : List Addr} {h : Heap} {p : Addr × Obj} (hp : p ∈ pinsAt fp h) : p.1 ∈ fp ∧ h.get? p.1 = some p.2 := by
  obtain ⟨b, hb, e⟩ := List.mem_filterMap.mp hp
  cases q : h.get? b with
  | none => rw [q] at e; cases e
  | some o =>
    rw [q] at e
    have e' : (b, o) = p := Option.some.inj e
    subst e'
    exact ⟨hb, q⟩
theorem Inv.pinned {pins : List (Addr × Obj)} {σ : St} {H : Hp} {s : Shared} {fp : List Addr} (I : Inv X pins σ H s) (hf : ∀ b ∈ fp, FpOk X pins H b) (ho : ∀ b ∈ fp, ∃ o, s.heap.get? b = some o ∧ ∀ v, o.data ≠ .cell v) : Inv X (pins ++ pinsAt fp s.heap) σ H s :=
  I.pins_of fun p hp => (List.mem_append.mp hp).elim (fun z => I.pin p (List.mem_append_right _ z)) fun z => by
    obtain ⟨hb, e⟩ := of_pinsAt z
    obtain ⟨f0, f1, f2, _⟩ := hf p.1 hb
    obtain ⟨o, e', d⟩ := ho p.1 hb
    rw [e] at e'; cases e'
    exact ⟨e, f0, f1, f2, d⟩
theorem Inv.unpinned {pins pl : List (Addr × Obj)} {σ : St} {H : Hp} {s : Shared} (I : Inv X (pins ++ pl) σ H s) : Inv X pins σ H s := I.pins_of fun p hp => I.pin p (List.mem_append_right _ (List.mem_append_left _ hp))
theorem ps_for {iter : Expr} {body : List Stmt} {wi : TI} {g : TG} {tb : TS} {pos : Pos} (hp : PassesOwn (model X.prog X.w) X.A X.env X.xe) (hc : X.calm = true) (hi : PI X tg iter wi) (hg : PG X tg g) (hb : PSs X body tb)
    (hs : ∀ x, foldedSetIterable iter X.env x = pure x := by intro _; rfl) : PS X (.For tg iter body [] pos) (tFor wi g tb) := by
  intro pins s σ H D I h
  refine wpAny_For (thn (hi pins s σ H _ I h) fun v s1 h1 => thn h1 fun itv s2 h2 => ?_) hs
  obtain ⟨it, fp, tn, J, H2, e, I2, T, st2, f2, W, ⟨m0, w0⟩, turn⟩ := h2
  subst e
  -- what stays true of the iterator's objects through the loop
  have stat : ∀ {H' : Hp}, (∀ b ∈ fp, H' b = none) → ∀ b ∈ fp, FpOk X pins H' b := fun hn b hb => ⟨hn b hb, (f2 b hb).2⟩
  refine codeAny_forLoop_any (fun n s' => Ex3 fun i σ' H' => Inv X pins σ' H' s' ∧ tn i s'.heap ∧ (∀ b ∈ fp, H' b = none) ∧ W i n σ' H') ?_ m0 ⟨0, σ, H2, I2, st2, fun b hb => (f2 b hb).1, w0⟩
  rintro n s3 ⟨i, σ3, H3, I3, st3, fr3, w3⟩
  rcases turn i n σ3 H3 w3 with ⟨stop, qn⟩ | ⟨go, N, hN, step⟩
  · refine wpAny_passesOwn hp (thn (T.done X rfl rfl rfl hc i pins s3 σ3 H3 X.xe I3 (stat fr3) st3 stop) fun r s4 hq => ?_)
    obtain ⟨hr, I4⟩ := hq
    subst hr
    exact wpAny_execs_nil ⟨σ3, H3, I4, qn⟩
  · refine wpAny_passesOwn hp (thn (T.item X rfl rfl rfl hc i pins s3 σ3 H3 X.xe I3 (stat fr3) st3 go) fun r s4 hq => ?_)
    obtain ⟨u, hr, h4⟩ := hq
    subst hr
    refine wpAny_passesOwn hp (thn h4 fun _ s5 hq => ?_)
    obtain ⟨x, H5, I5, r5, y5, st5, fr5⟩ := hq
    have I5' := I5.pinned (stat fr5) (T.obj _ _ st5)
    refine wpAny_passesOwn hp (thn (hg _ s5 σ3 H5 x u _ I5' r5 (step x H5 y5)) fun _ s6 hq => ?_)
    obtain ⟨σ6, H6, I6, q6⟩ := hq
    refine wpAny_passesOwn hp (thn (hb _ s6 σ6 H6 _ I6 q6) fun f s7 q7 => ?_)
    have again : ∀ {σ7 : St} {H7 : Hp}, Inv X (pins ++ pinsAt fp s5.heap) σ7 H7 s7 → N σ7 H7 → ∃ m, m < n ∧ Ex3 fun i σ' H' => Inv X pins σ' H' s7 ∧ tn i s7.heap ∧ (∀ b ∈ fp, H' b = none) ∧ W i m σ' H' := fun {σ7 H7} I7 n7 => by
      obtain ⟨m', hm, w7⟩ := hN σ7 H7 n7
      refine ⟨m', hm, i + 1, σ7, H7, I7.unpinned, T.keep _ _ _ st5 fun b hb o e => (I7.pin (b, o) (List.mem_append_right _ (List.mem_append_right _ (mem_pinsAt hb e)))).1, fun b hb => ?_, w7⟩
      obtain ⟨o, e, d⟩ := T.obj _ _ st5 b hb
      exact (I7.pin (b, o) (List.mem_append_right _ (List.mem_append_right _ (mem_pinsAt hb e)))).2.1
    cases f with
    | next => obtain ⟨σ7, H7, I7, n7⟩ := q7; exact again I7 n7
    | cont => obtain ⟨σ7, H7, I7, n7⟩ := q7; exact again I7 n7
    | brk => obtain ⟨σ7, H7, I7, q7⟩ := q7; exact ⟨σ7, H7, I7.unpinned, q7⟩
    | ret v => obtain ⟨x7, σ7, H7, I7, r7, q7⟩ := q7; exact ⟨x7, σ7, H7, I7.unpinned, r7, q7⟩
end

/-! ### the forms one uses -/
/-- over a list that the body leaves as it is -/
theorem for_list {K : PySem.W.Frag} {a : Addr} {xs : List V} {g : TG} {tb : TS} {D : Ends} {σ : St} {H : Hp} (Pv : Nat → St → Hp → Prop) (h0 : Pv 0 σ H) (hl : ∀ i σ H, i ≤ xs.length → Pv i σ H → SqL K H a xs)
    (hs : ∀ i x σ H, xs[i]? = some x → Pv i σ H → g x σ H fun σ2 H2 => tb { D with nx := Pv (i + 1), ct := Pv (i + 1), bk := D.nx } σ2 H2) (hd : ∀ σ H, Pv xs.length σ H → D.nx σ H) :
    ∃ W : Nat → Nat → St → Hp → Prop, (∃ m, W 0 m σ H) ∧ ∀ i m σ H, W i m σ H →
      ((Itl K a).stop i H ∧ D.nx σ H) ∨ ((Itl K a).go i H ∧ ∃ N : St → Hp → Prop, (∀ σ' H', N σ' H' → ∃ m', m' < m ∧ W (i + 1) m' σ' H') ∧ ∀ x H', (Itl K a).yld i H x H' → g x σ H' fun σ2 H2 => tb { D with nx := N, ct := N, bk := D.nx } σ2 H2) := by
  refine ⟨fun i m σ H => m = xs.length - i ∧ i ≤ xs.length ∧ Pv i σ H, ⟨xs.length, by simp, Nat.zero_le _, h0⟩, ?_⟩
  rintro i m σ H ⟨rfl, hi, p⟩
  have q := hl i σ H hi p
  by_cases hlt : i < xs.length
  · refine .inr ⟨⟨xs, xs[i], q, by simp [hlt]⟩, Pv (i + 1), fun σ' H' p' => ⟨xs.length - (i + 1), by lia, rfl, hlt, p'⟩, fun x H' y => ?_⟩
    obtain ⟨e, y⟩ := y
    subst e
    exact hs i x σ _ (y xs q) p
  · have e : i = xs.length := by lia
    subst e
    exact .inl ⟨⟨xs, q, Nat.le_refl _⟩, hd σ H p⟩
theorem for_range {lo : Int} {n : Nat} {g : TG} {tb : TS} {D : Ends} {σ : St} {H : Hp} (Pv : Nat → St → Hp → Prop) (h0 : Pv 0 σ H)
    (hs : ∀ i σ H, i < n → Pv i σ H → g (.int (lo + i)) σ H fun σ2 H2 => tb { D with nx := Pv (i + 1), ct := Pv (i + 1), bk := D.nx } σ2 H2) (hd : ∀ σ H, Pv n σ H → D.nx σ H) :
    ∃ W : Nat → Nat → St → Hp → Prop, (∃ m, W 0 m σ H) ∧ ∀ i m σ H, W i m σ H →
      ((Itr lo n).stop i H ∧ D.nx σ H) ∨ ((Itr lo n).go i H ∧ ∃ N : St → Hp → Prop, (∀ σ' H', N σ' H' → ∃ m', m' < m ∧ W (i + 1) m' σ' H') ∧ ∀ x H', (Itr lo n).yld i H x H' → g x σ H' fun σ2 H2 => tb { D with nx := N, ct := N, bk := D.nx } σ2 H2) := by
  refine ⟨fun i m σ H => m = n - i ∧ i ≤ n ∧ Pv i σ H, ⟨n, by simp, Nat.zero_le _, h0⟩, ?_⟩
  rintro i m σ H ⟨rfl, hi, p⟩
  by_cases hlt : i < n
  · refine .inr ⟨hlt, Pv (i + 1), fun σ' H' p' => ⟨n - (i + 1), by lia, rfl, hlt, p'⟩, fun x H' y => ?_⟩
    obtain ⟨e, y⟩ := y
    subst e y
    exact hs i σ _ hlt p
  · have e : i = n := by lia
    subst e
    exact .inl ⟨Nat.le_refl _, hd σ H p⟩
end L2

namespace L2
open PySem PySem.Spec PyProof.Rows

noncomputable abbrev R2 := V → V → Hp → VK → Prop
/-- a two-place operation on values: f is binaryOp op, inplaceOp op or compareOp op -/
noncomputable def OpR (X : Cx) (f : Value → Value → Sem Value) (r : R2) : Prop :=
  ∀ (pins : List (Addr × Obj)) (s : Shared) (σ : St) (H : Hp) (x y : V) (v u : Value) (Q : VK), Inv X pins σ H s → RelV x v → RelV y u → r x y H Q →
    wpAny (model X.prog X.w) X.A (f v u) (EP X pins σ Q) X.xe s
/-- a one-place operation -/
noncomputable def UnR (X : Cx) (f : Value → Sem Value) (r : V → Hp → VK → Prop) : Prop :=
  ∀ (pins : List (Addr × Obj)) (s : Shared) (σ : St) (H : Hp) (x : V) (v : Value) (Q : VK), Inv X pins σ H s → RelV x v → r x H Q →
    wpAny (model X.prog X.w) X.A (f v) (EP X pins σ Q) X.xe s
/-- a call of a value that is known (a builtin, a type) with values -/
noncomputable def CallR (X : Cx) (f : Value) (r : List V → Hp → VK → Prop) : Prop :=
  ∀ (pins : List (Addr × Obj)) (s : Shared) (σ : St) (H : Hp) (xs : List V) (us : List Value) (Q : VK), Inv X pins σ H s → Vals xs us → r xs H Q →
    wpAny (model X.prog X.w) X.A (call f us) (EP X pins σ Q) X.xe s

noncomputable def tOp (r : R2) (ta tb : TE) : TE := fun σ H Q => ta σ H fun x H1 => tb σ H1 fun y H2 => r x y H2 Q
noncomputable def tUn (r : V → Hp → VK → Prop) (ta : TE) : TE := fun σ H Q => ta σ H fun x H1 => r x H1 Q
/-- ints in, under C, and a value out -/
inductive GI (C : Int → Int → Prop) (g : Int → Int → V) (x y : V) (H : Hp) (Q : VK) : Prop
  | mk (i j : Int) (a : x = .int i) (b : y = .int j) (q : C i j ∧ Q (g i j) H) : GI C g x y H Q
noncomputable def rI (C : Int → Int → Prop) (g : Int → Int → V) : R2 := fun x y H Q => GI C g x y H Q
inductive GI0 (g : Int → Int → V) (x y : V) (H : Hp) (Q : VK) : Prop
  | mk (i j : Int) (a : x = .int i) (b : y = .int j) (q : Q (g i j) H) : GI0 g x y H Q
noncomputable def rI0 (g : Int → Int → V) : R2 := fun x y H Q => GI0 g x y H Q
noncomputable def rU (g : Int → V) : V → Hp → VK → Prop := fun x H Q => ∃ i, x = .int i ∧ Q (g i) H

section
variable {X : Cx} {a b c : Expr} {ta tb tc : TE} {pos : Pos}

theorem binT (ha : PE X a ta) (hb : PE X b tb) {pins : List (Addr × Obj)} {s : Shared} {σ : St} {H : Hp} {R : V → V → Hp → Prop} (I : Inv X pins σ H s)
    (h : ta σ H fun x H1 => tb σ H1 fun y H2 => R x y H2) {Q : Value → Shared → Prop} {f : Value → Value → Sem Value}
    (hf : ∀ v u s2 x y H2, Inv X pins σ H2 s2 → RelV x v → RelV y u → R x y H2 → wpAny (model X.prog X.w) X.A (f v u) Q X.xe s2) :
    wpAny (model X.prog X.w) X.A (eval a X.env) (fun v s₁ => wpAny (model X.prog X.w) X.A (eval b X.env) (fun u s₂ => wpAny (model X.prog X.w) X.A (f v u) Q X.xe s₂) X.xe s₁) X.xe s := by
  refine thn (ha pins s σ H _ I h) fun v s1 hq => ?_
  obtain ⟨x, H1, I1, r1, q1⟩ := hq
  refine thn (hb pins s1 σ H1 _ I1 q1) fun u s2 hq => ?_
  obtain ⟨y, H2, I2, r2, q2⟩ := hq
  exact hf v u s2 x y H2 I2 r1 r2 q2

theorem pe_op {op : Operator} {r : R2} (ho : OpR X (binaryOp op) r) (ha : PE X a ta) (hb : PE X b tb) : PE X (.BinOp a op b pos) (tOp r ta tb) := by
  intro pins s σ H Q I h
  exact wpAny_BinOp (binT ha hb I h fun v u s2 x y H2 I2 rx ry q => ho pins s2 σ H2 x y v u Q I2 rx ry q)
theorem pe_un {op : UnaryOp} {r : V → Hp → VK → Prop} (ho : UnR X (unaryOp op) r) (ha : PE X a ta) : PE X (.UnaryOp op a pos) (tUn r ta) := by
  intro pins s σ H Q I h
  exact UnaryOp_ (thn (ha pins s σ H _ I h) fun v s1 ⟨x, H1, I1, r1, q1⟩ => ho pins s1 σ H1 x v Q I1 r1 q1)

/-! ### ints -/
theorem opI {f : Value → Value → Sem Value} {C : Int → Int → Prop} {g : Int → Int → Int}
    (rule : ∀ (i j : Int) (t u : Tok) (s : Shared) (Q : Value → Shared → Prop) (E : Value → Shared → Prop), C i j → Q (.int (g i j) s.toks) { s with toks := s.toks + 1 } → wpAny (model X.prog X.w) X.A (f (.int i t) (.int j u)) Q E s) :
    OpR X f (rI C fun i j => .int (g i j)) := by
  intro pins s σ H x y v u Q I rx ry h
  obtain ⟨i, j, rfl, rfl, hc, q⟩ := h
  obtain ⟨t, rfl⟩ := rx
  obtain ⟨t', rfl⟩ := ry
  exact rule i j t t' s _ _ hc ⟨.int (g i j), H, I.tok _, ⟨_, rfl⟩, q⟩
theorem opI0 {f : Value → Value → Sem Value} {g : Int → Int → Int}
    (rule : ∀ (i j : Int) (t u : Tok) (s : Shared) (Q : Value → Shared → Prop) (E : Value → Shared → Prop), Q (.int (g i j) s.toks) { s with toks := s.toks + 1 } → wpAny (model X.prog X.w) X.A (f (.int i t) (.int j u)) Q E s) :
    OpR X f (rI0 fun i j => .int (g i j)) := by
  intro pins s σ H x y v u Q I rx ry h
  obtain ⟨i, j, rfl, rfl, q⟩ := h
  obtain ⟨t, rfl⟩ := rx
  obtain ⟨t', rfl⟩ := ry
  exact rule i j t t' s _ _ ⟨.int (g i j), H, I.tok _, ⟨_, rfl⟩, q⟩
theorem opB0 {f : Value → Value → Sem Value} {g : Int → Int → Bool}
    (rule : ∀ (i j : Int) (t u : Tok) (s : Shared) (Q : Value → Shared → Prop) (E : Value → Shared → Prop), Q (.bool (g i j)) s → wpAny (model X.prog X.w) X.A (f (.int i t) (.int j u)) Q E s) :
    OpR X f (rI0 fun i j => .bl (g i j)) := by
  intro pins s σ H x y v u Q I rx ry h
  obtain ⟨i, j, rfl, rfl, q⟩ := h
  obtain ⟨t, rfl⟩ := rx
  obtain ⟨t', rfl⟩ := ry
  exact rule i j t t' s _ _ ⟨.bl (g i j), H, I, rfl, q⟩

noncomputable def CDiv (i j : Int) : Prop := 0 < j ∧ j < 1073741824
noncomputable def CPow (i j : Int) : Prop := 0 ≤ j ∧ j ≤ 1000000 ∧ i.natAbs < 2 ^ 64
noncomputable def CMul (i j : Int) : Prop := (-(2 ^ 64) < i ∧ i < 2 ^ 64) ∨ (-(2 ^ 64) < j ∧ j < 2 ^ 64)
theorem CMul.ok {i j : Int} (h : CMul i j) : IntMulOk i j := by
  rcases h with ⟨h1, h2⟩ | ⟨h1, h2⟩
  · exact .of_left (intBits_le_64 h1 h2)
  · exact .of_right (intBits_le_64 h1 h2)

theorem op_add : OpR X (binaryOp .Add) (rI0 fun i j => .int (i + j)) := opI0 fun _ _ _ _ _ _ _ q => add_int q
theorem op_sub : OpR X (binaryOp .Sub) (rI0 fun i j => .int (i - j)) := opI0 fun _ _ _ _ _ _ _ q => sub_int q
theorem op_mul : OpR X (binaryOp .Mult) (rI CMul fun i j => .int (i * j)) := opI fun _ _ _ _ _ _ _ hc q => mul_int q hc.ok
/-- // by a positive divisor -/
theorem op_fdiv : OpR X (binaryOp .FloorDiv) (rI CDiv fun i j => .int (i / j)) := opI fun i j _ _ _ _ _ hc q => by
  have h1 : (0 : Int) < j := hc.1
  have h2 : j < 1073741824 := hc.2
  exact floordiv_int (by lia) (by rw [Int.fdiv_eq_ediv_of_nonneg i (by lia)]; exact q) (.inl (PyProof.noPylong_small (by lia)))
/-- % by a positive divisor of any size -/
theorem op_mod : OpR X (binaryOp .Mod) (rI (fun _ j => 0 < j) fun i j => .int (i % j)) := opI fun i j _ _ _ _ _ hc q => by
  have h1 : (0 : Int) < j := hc
  exact mod_int' (by lia) (by rw [Int.fmod_eq_emod_of_nonneg i (by lia)]; exact q)
theorem op_pow : OpR X (binaryOp .Pow) (rI CPow fun i j => .int (i ^ j.toNat)) := opI fun _ _ _ _ _ _ _ hc q => pow_int_small hc.1 hc.2.1 hc.2.2 q

theorem iop_add : OpR X (inplaceOp .Add) (rI0 fun i j => .int (i + j)) := opI0 fun _ _ _ _ _ _ _ q => iadd_int q
theorem iop_mul : OpR X (inplaceOp .Mult) (rI CMul fun i j => .int (i * j)) := opI fun _ _ _ _ _ _ _ hc q => imul_int q hc.ok

theorem unI {f : Value → Sem Value} {g : Int → Int}
    (rule : ∀ (i : Int) (t : Tok) (s : Shared) (Q : Value → Shared → Prop) (E : Value → Shared → Prop), Q (.int (g i) s.toks) { s with toks := s.toks + 1 } → wpAny (model X.prog X.w) X.A (f (.int i t)) Q E s) :
    UnR X f (rU fun i => .int (g i)) := by
  intro pins s σ H x v Q I rx h
  obtain ⟨i, rfl, q⟩ := h
  obtain ⟨t, rfl⟩ := rx
  exact rule i t s _ _ ⟨.int (g i), H, I.tok _, ⟨_, rfl⟩, q⟩
theorem un_neg : UnR X (unaryOp .USub) (rU fun i => .int (-i)) := unI fun _ _ _ _ _ q => neg_int q

/-! ### bools among ints: n += (a < b) -/
end

/-! ### comparisons -/
/-- the scalars that == tells apart as data does -/
noncomputable def scal : V → V → Bool
  | .non, .non => true | .non, .int _ => true | .int _, .non => true | .non, .bl _ => true | .bl _, .non => true | .non, .str _ => true | .str _, .non => true
  | .int _, .int _ => true | .bl _, .bl _ => true | .str _, .str _ => true | .byt _, .byt _ => true
  | .int _, .str _ => true | .str _, .int _ => true | .bl _, .str _ => true | .str _, .bl _ => true
  | _, _ => false
inductive GEq (x y : V) (H : Hp) (Q : VK) : Prop
  | mk (h : scal x y = true) (q : Q (.bl (decide (x = y))) H) : GEq x y H Q
noncomputable def rEq : R2 := fun x y H Q => GEq x y H Q
inductive GNe (x y : V) (H : Hp) (Q : VK) : Prop
  | mk (h : scal x y = true) (q : Q (.bl (!decide (x = y))) H) : GNe x y H Q
noncomputable def rNe : R2 := fun x y H Q => GNe x y H Q

theorem dec_int {i j : Int} : decide (V.int i = V.int j) = (i == j) := by
  rw [Bool.eq_iff_iff]
  simp
theorem dec_bl {i j : Bool} : decide (V.bl i = V.bl j) = (i == j) := by
  rw [Bool.eq_iff_iff]
  simp
theorem dec_str {i j : Str} : decide (V.str i = V.str j) = (i == j) := by
  rw [Bool.eq_iff_iff]
  simp
theorem dec_byt {i j : Array UInt8} : decide (V.byt i = V.byt j) = (i.toList == j.toList) := by
  rw [Bool.eq_iff_iff]
  cases i
  cases j
  simp

section
variable {X : Cx} {a b c : Expr} {ta tb tc : TE} {pos : Pos}
theorem fin_bl {pins : List (Addr × Obj)} {σ : St} {H : Hp} {s : Shared} {Q : VK} {k k' : Bool} (I : Inv X pins σ H s) (q : Q (.bl k) H) (e : k = k') : EP X pins σ Q (.bool k') s := by
  subst e
  exact ⟨.bl k, H, I, rfl, q⟩
theorem op_eq : OpR X (compareOp .Eq) rEq := by
  intro pins s σ H x y v u Q I rx ry h
  obtain ⟨hs, q⟩ := h
  cases x with
  | non =>
    cases rx
    cases y with
    | non => cases ry; exact PySem.EqNone.eq_none_none (fin_bl I q (by simp))
    | bl j => cases ry; exact PySem.EqNone.eq_none_bool (fin_bl I q (by simp))
    | int j => obtain ⟨t', rfl⟩ := ry; exact PySem.EqNone.eq_none_int (fin_bl I q (by simp))
    | str j => obtain ⟨t', rfl⟩ := ry; exact PySem.EqNone.eq_none_str (fin_bl I q (by simp))
    | _ => exact absurd (show false = true from hs) Bool.false_ne_true
  | bl i =>
    cases rx
    cases y with
    | non => cases ry; exact PySem.EqNone.eq_bool_none (fin_bl I q (by simp))
    | bl j => cases ry; exact eq_bool (fin_bl I q dec_bl)
    | str j => obtain ⟨t', rfl⟩ := ry; exact PySem.EqMixed.eq_bool_str (fin_bl I q (by simp))
    | _ => exact absurd (show false = true from hs) Bool.false_ne_true
  | int i =>
    obtain ⟨t, rfl⟩ := rx
    cases y with
    | non => cases ry; exact PySem.EqNone.eq_int_none (fin_bl I q (by simp))
    | int j => obtain ⟨t', rfl⟩ := ry; exact eq_int (fin_bl I q dec_int)
    | str j => obtain ⟨t', rfl⟩ := ry; exact PySem.EqMixed.eq_int_str (fin_bl I q (by simp))
    | _ => exact absurd (show false = true from hs) Bool.false_ne_true
  | str i =>
    obtain ⟨t, rfl⟩ := rx
    cases y with
    | non => cases ry; exact PySem.EqNone.eq_str_none (fin_bl I q (by simp))
    | bl j => cases ry; exact PySem.EqMixed.eq_str_bool (fin_bl I q (by simp))
    | int j => obtain ⟨t', rfl⟩ := ry; exact PySem.EqMixed.eq_str_int (fin_bl I q (by simp))
    | str j => obtain ⟨t', rfl⟩ := ry; exact eq_str (fin_bl I q dec_str)
    | _ => exact absurd (show false = true from hs) Bool.false_ne_true
  | byt i =>
    obtain ⟨t, rfl⟩ := rx
    cases y with
    | byt j => obtain ⟨t', rfl⟩ := ry; exact PySem.W.eq_bytes (fin_bl I q dec_byt)
    | _ => exact absurd (show false = true from hs) Bool.false_ne_true
  | _ => cases y <;> exact absurd (show false = true from hs) Bool.false_ne_true
theorem op_ne : OpR X (compareOp .NotEq) rNe := by
  intro pins s σ H x y v u Q I rx ry h
  obtain ⟨hs, q⟩ := h
  cases x with
  | non =>
    cases rx
    cases y with
    | non => cases ry; exact PySem.EqNone.ne_none_none (fin_bl I q (by simp))
    | bl j => cases ry; exact PySem.EqNone.ne_none_bool (fin_bl I q (by simp))
    | int j => obtain ⟨t', rfl⟩ := ry; exact PySem.EqNone.ne_none_int (fin_bl I q (by simp))
    | str j => obtain ⟨t', rfl⟩ := ry; exact PySem.EqNone.ne_none_str (fin_bl I q (by simp))
    | _ => exact absurd (show false = true from hs) Bool.false_ne_true
  | bl i =>
    cases rx
    cases y with
    | non => cases ry; exact PySem.EqNone.ne_bool_none (fin_bl I q (by simp))
    | bl j => cases ry; exact ne_bool (fin_bl I q (congrArg not dec_bl))
    | str j => obtain ⟨t', rfl⟩ := ry; exact PySem.EqMixed.ne_bool_str (fin_bl I q (by simp))
    | _ => exact absurd (show false = true from hs) Bool.false_ne_true
  | int i =>
    obtain ⟨t, rfl⟩ := rx
    cases y with
    | non => cases ry; exact PySem.EqNone.ne_int_none (fin_bl I q (by simp))
    | int j => obtain ⟨t', rfl⟩ := ry; exact ne_int (fin_bl I q (congrArg not dec_int))
    | str j => obtain ⟨t', rfl⟩ := ry; exact PySem.EqMixed.ne_int_str (fin_bl I q (by simp))
    | _ => exact absurd (show false = true from hs) Bool.false_ne_true
  | str i =>
    obtain ⟨t, rfl⟩ := rx
    cases y with
    | non => cases ry; exact PySem.EqNone.ne_str_none (fin_bl I q (by simp))
    | bl j => cases ry; exact PySem.EqMixed.ne_str_bool (fin_bl I q (by simp))
    | int j => obtain ⟨t', rfl⟩ := ry; exact PySem.EqMixed.ne_str_int (fin_bl I q (by simp))
    | str j => obtain ⟨t', rfl⟩ := ry; exact ne_str (fin_bl I q (congrArg not dec_str))
    | _ => exact absurd (show false = true from hs) Bool.false_ne_true
  | byt i =>
    obtain ⟨t, rfl⟩ := rx
    cases y with
    | byt j => obtain ⟨t', rfl⟩ := ry; exact PySem.W.ne_bytes (fin_bl I q (congrArg not dec_byt))
    | _ => exact absurd (show false = true from hs) Bool.false_ne_true
  | _ => cases y <;> exact absurd (show false = true from hs) Bool.false_ne_true

theorem op_lt : OpR X (compareOp .Lt) (rI0 fun i j => .bl (decide (i < j))) := opB0 fun _ _ _ _ _ _ _ q => lt_int q
theorem op_le : OpR X (compareOp .LtE) (rI0 fun i j => .bl (decide (i ≤ j))) := opB0 fun _ _ _ _ _ _ _ q => le_int q
theorem op_gt : OpR X (compareOp .Gt) (rI0 fun i j => .bl (decide (j < i))) := opB0 fun _ _ _ _ _ _ _ q => gt_int q
theorem op_ge : OpR X (compareOp .GtE) (rI0 fun i j => .bl (decide (j ≤ i))) := opB0 fun _ _ _ _ _ _ _ q => ge_int q




theorem nomark (b : Expr) {op : CmpOp} (h : op ≠ .In := by decide) (h2 : op ≠ .NotIn := by decide) : behindInMarks op b = false := by
  have e1 : (op == CmpOp.In) = false := by cases op <;> first | rfl | exact absurd rfl h
  have e2 : (op == CmpOp.NotIn) = false := by cases op <;> first | rfl | exact absurd rfl h2
  cases b <;> simp [behindInMarks, e1, e2]
/-- a comparison as a value; hm: nomark b, or (for in, not in) by with_unfolding_all rfl -/
theorem pe_cmpR {op : CmpOp} {r : R2} (ho : OpR X (compareOp op) r) (ha : PE X a ta) (hb : PE X b tb) (hm : behindInMarks op b = false) : PE X (.Compare a [op] [b] pos) (tOp r ta tb) := by
  intro pins s σ H Q I h
  exact wpAny_Compare1 (binT ha hb I h fun v u s2 x y H2 I2 rx ry q => ho pins s2 σ H2 x y v u Q I2 rx ry q) hm
/-- a reading of a value as a test -/
inductive GBl (x : V) (H : Hp) (Q : Bool → Hp → Prop) : Prop
  | mk (k : Bool) (e : x = .bl k) (q : Q k H) : GBl x H Q
noncomputable def tTest (t : TE) : TT := fun σ H Q => t σ H fun x H' => GBl x H' Q
theorem pt_cmpR {op : CmpOp} {r : R2} (ho : OpR X (compareOp op) r) (ha : PE X a ta) (hb : PE X b tb) (hm : behindInMarks op b = false) : PT X (.Compare a [op] [b] pos) (tTest (tOp r ta tb)) := by
  intro pins s σ H Q I h
  refine wpAny_isTrue_Compare1 (thn (ha pins s σ H _ I h) fun v s1 ⟨x, H1, I1, r1, q1⟩ => thn (hb pins s1 σ H1 _ I1 q1) fun u s2 ⟨y, H2, I2, r2, q2⟩ =>
    thn (ho pins s2 σ H2 x y v u _ I2 r1 r2 q2) fun c s3 ⟨z, H3, I3, r3, k, e, q3⟩ => ?_) hm
  subst e
  cases r3
  exact wpAny_truthy_bool ⟨H3, I3, q3⟩
/-- a op1 b op2 c -/
noncomputable def tChain (r r' : R2) (ta tb tc : TE) : TE := fun σ H Q => ta σ H fun x H1 => tb σ H1 fun y H2 => r x y H2 fun z H3 => ∃ k, z = .bl k ∧
  (if k = true then tc σ H3 fun w' H4 => r' y w' H4 Q else Q (.bl false) H3)
theorem pt_chain {op op' : CmpOp} {r r' : R2} (ho : OpR X (compareOp op) r) (ho' : OpR X (compareOp op') r') (ha : PE X a ta) (hb : PE X b tb) (hc : PE X c tc)
    (hm : lastMarks [op, op'] [b, c] = false := by with_unfolding_all rfl) : PT X (.Compare a [op, op'] [b, c] pos) (tTest (tChain r r' ta tb tc)) := by
  intro pins s σ H Q I h
  refine isTrue_chain (thn (ha pins s σ H _ I h) fun v s1 ⟨x, H1, I1, r1, q1⟩ => test_link (thn (hb pins s1 σ H1 _ I1 q1) fun u s2 ⟨y, H2, I2, r2, q2⟩ =>
    thn (ho pins s2 σ H2 x y v u _ I2 r1 r2 q2) fun d s3 ⟨z, H3, I3, r3, k, e, q3⟩ => ?_)) hm
  subst e
  cases r3
  refine wpAny_truthy_bool ?_
  cases k with
  | false =>
    obtain ⟨k', e', q'⟩ := q3
    cases e'
    exact ite_ff ⟨H3, I3, q'⟩
  | true =>
    refine ite_tt (test_last (thn (hc pins s3 σ H3 _ I3 q3) fun w' s4 ⟨z', H4, I4, r4, q4⟩ => thn (ho' pins s4 σ H4 y z' u w' _ I4 r2 r4 q4) fun d' s5 hq => ?_))
    obtain ⟨z2, H5, I5, r5, k2, e2, q5⟩ := hq
    subst e2
    cases r5
    exact wpAny_truthy_bool ⟨H5, I5, q5⟩

/-! ### truth -/
theorem line63 : (sizeLine : Nat) < 2 ^ 63 := by rw [sizeLine_eq]; decide

/-! ### strs and bytes -/


/-! ### scalar builtins, by CallR -/
theorem vals1 {x : V} {us : List Value} (r : Vals [x] us) : ∃ u, us = [u] ∧ RelV x u := by
  cases r with
  | cons r1 r2 => cases r2; exact ⟨_, rfl, r1⟩
theorem vals2 {x y : V} {us : List Value} (r : Vals [x, y] us) : Ex2 fun u w' => us = [u, w'] ∧ RelV x u ∧ RelV y w' := by
  cases r with
  | cons r1 r2 =>
    cases r2 with
    | cons r3 r4 => cases r4; exact ⟨_, _, rfl, r1, r3⟩
theorem call_abs : CallR X (.builtin "abs") (fun xs H Q => ∃ i, xs = [.int i] ∧ Q (.int (if i < 0 then -i else i)) H) := by
  intro pins s σ H xs us Q I r h
  obtain ⟨i, rfl, q⟩ := h
  obtain ⟨u, rfl, t, rfl⟩ := vals1 r
  exact call_abs_int fun u tk => ⟨.int (if i < 0 then -i else i), H, I.tok _, ⟨_, rfl⟩, q⟩
theorem call_min2 (hc : X.calm = true) : CallR X (.builtin "min") (fun xs H Q => Ex2 fun i j => xs = [.int i, .int j] ∧ Q (.int (if j < i then j else i)) H) := by
  intro pins s σ H xs us Q I r h
  obtain ⟨i, j, rfl, q⟩ := h
  obtain ⟨u, w', rfl, ⟨t, rfl⟩, ⟨t', rfl⟩⟩ := vals2 r
  refine min_two_ints (I.ok.hd hc) fun h' tk k => ⟨_, H, I.kept k, ?_, q⟩
  by_cases hj : j < i
  · rw [if_pos hj, if_pos hj]; exact ⟨_, rfl⟩
  · rw [if_neg hj, if_neg hj]; exact ⟨_, rfl⟩
theorem call_int1 : CallR X (.type "int") (fun xs H Q => (∃ i, xs = [.int i] ∧ Q (.int i) H) ∨ ∃ k, xs = [.bl k] ∧ Q (.int (if k then 1 else 0)) H) := by
  intro pins s σ H xs us Q I r h
  rcases h with ⟨i, rfl, q⟩ | ⟨k, rfl, q⟩
  · obtain ⟨u, rfl, t, rfl⟩ := vals1 r
    exact call_int_int ⟨.int i, H, I, ⟨_, rfl⟩, q⟩
  · obtain ⟨u, rfl, r1⟩ := vals1 r
    cases r1
    exact call_int_bool ⟨.int (if k then 1 else 0), H, I.tok _, ⟨_, rfl⟩, q⟩
end
end L2

namespace L2
open PySem PySem.Spec PyProof.Rows

/-! ### an instance, its attributes a map -/
structure ObjM (h : Heap) (x dx C : Addr) (mA : Str → Option Value) : Prop where
  obj : h.get? x = some (PySem.W.instObj C dx)
  ns : h.Ns1 dx mA
  ne : dx ≠ x




/-! ### the attributes as a list of pairs -/

theorem RelO.some_of {v : V} {o : Option Value} (r : RelO (some v) o) : ∃ u, o = some u ∧ RelV v u := by
  cases o with
  | none => exact (show False from r).elim
  | some u => exact ⟨u, rfl, r⟩


/-! ### what of the text a class must have -/
structure Cls (K : PySem.W.Frag) (C : Addr) : Prop where
  pg : PySem.W.plainGet K C Str.empty = true
  hd : PySem.W.hasDictIn K C = true
  po : PySem.W.plainOver K C = true
  sa : PySem.W.findIn K (.ref C) "__setattr__" = some (some (.builtin "object.__setattr__"))
/-- a constant of the class -/
structure Con (K : PySem.W.Frag) (C : Addr) (f : Str) (v : V) (u : Value) : Prop where
  at_ : PySem.W.findIn K (.ref C) f = some (some u)
  rel : RelV v u
  get : PySem.W.specialIn K u "__get__" = some none
  cp : PySem.W.copiedNames.contains f = false
/-- a method: a plain def of the class or of one above it -/
structure Meth (K : PySem.W.Frag) (C : Addr) (m : Str) (f : Addr) : Prop where
  at_ : PySem.W.findIn K (.ref C) m = some (some (.ref f))
  fn : PySem.W.isFn K (.ref f) = true
  kp : PySem.W.keepIn K (.ref f) = true


/-! ### readings and rules -/


/-! ### isinstance -/
section
variable {X : Cx} {pins : List (Addr × Obj)} {σ : St} {H : Hp} {s : Shared} {A : Around} {E : Value → Shared → Prop} {Q : Value → Shared → Prop} {c : Value} {b : Bool}
/-- the type of a value, as the fragment's deciders take it; for an instance its class -/
inductive TyOf (K : PySem.W.Frag) (H : Hp) : V → Value → Prop where
  | non : TyOf K H .non (.type "NoneType")
  | bl (x : Bool) : TyOf K H (.bl x) (.type "bool")
  | int (i : Int) : TyOf K H (.int i) (.type "int")
  | str (x : Str) : TyOf K H (.str x) (.type "str")
  | flt (x : UInt64) : TyOf K H (.flt x) (.type "float")
  | lst {a : Addr} {xs : List V} (e : H a = some (.lst xs)) : TyOf K H (.ref a) (.type "list")
  | frz {a : Addr} {o : Obj} {xs : List V} (e : H a = some (.frz o (.lst xs))) : TyOf K H (.ref a) (.type "list")
  | tup {a : Addr} {xs : List V} (e : H a = some (.tup xs)) : TyOf K H (.ref a) (.type "tuple")
  | dK {a : Addr} {kvs : List (Key × V)} (e : H a = some (.dK kvs)) : TyOf K H (.ref a) (.type "dict")
  | dT {a : Addr} {kvs : List (List Key × V)} (e : H a = some (.dT kvs)) : TyOf K H (.ref a) (.type "dict")
  | ins {a C dx : Addr} {fs : List (Str × V)} (e : H a = some (.ins C dx fs)) (cl : Cls K C) (ha : PySem.W.findIn K (.ref C) "__class__" = some (some (.builtin "object.__class__")))
      (hn : PySem.W.specialIn K (.builtin "object.__class__") "__get__" = some (some (.builtin "getset_descriptor.__get__"))) (htk : PySem.W.takesIn K (.builtin "object.__class__") = some true)
      (hm : PySem.W.mroIn K C (.type "object") = some true) : TyOf K H (.ref a) (.ref C)
end
end L2

namespace L2
open PySem PySem.Spec PyProof.Rows

/-! ### room -/
structure Room (k : Nat) (A : Around) : Prop where
  hd : A.handled = none
  dp : A.depth + 3 * k + 5 < recursionLimit
  un : A.units + 16 * k + 200 < cLine
  gd : A.guards = some []
theorem Room.mono {j k : Nat} {A : Around} (r : Room k A) (h : j ≤ k) : Room j A := ⟨r.hd, by have := r.dp; lia, by have := r.un; lia, r.gd⟩
theorem Room.deeper {k : Nat} {A : Around} (r : Room (k + 1) A) (env : Env) : Room k (A.deeper env) :=
  ⟨r.hd, by have := r.dp; show A.depth + 1 + 3 * k + 5 < _; lia, by have := r.un; show A.units + 3 + 16 * k + 200 < _; lia, r.gd⟩
theorem Room.depth {k : Nat} {A : Around} (r : Room k A) : A.depth < recursionLimit := by have := r.dp; lia
theorem Room.units {k : Nat} {A : Around} (r : Room k A) : A.units + 64 < cLine := by have := r.un; lia
theorem Room.units0 {k : Nat} {A : Around} (r : Room k A) : A.units < cLine := by have := r.un; lia

/-! ### argument lists and displays -/
noncomputable def tNil : TA := fun _ H Q => Q [] H
noncomputable def tCons (ta : TE) (tr : TA) : TA := fun σ H Q => ta σ H fun x H1 => tr σ H1 fun xs H2 => Q (x :: xs) H2
section
variable {X : Cx} {e : Expr} {es : List Expr} {te : TE} {t : TA} {pos : Pos}
theorem pa_nil : PA X [] tNil := fun _ _ _ _ H Q I h => Calls.spliced_nil ⟨[], H, I, .nil, h⟩
theorem pa_cons (ha : PE X e te) (hr : PA X es t) (hs : starEach (e :: es) X.env = (false, eval e X.env) :: starEach es X.env := by rfl) : PA X (e :: es) (tCons te t) := by
  intro pos pins s σ H Q I h
  rw [hs]
  show wpAny _ _ (spliced ((false, eval e X.env) :: backTo pos (starEach es X.env))) _ _ s
  refine Calls.spliced_cons (thn (ha pins s σ H _ I h) fun u s1 hq => ?_)
  obtain ⟨x, H1, I1, r1, q1⟩ := hq
  exact thn (hr pos pins s1 σ H1 _ I1 q1) fun us s2 ⟨xs, H2, I2, r2, q2⟩ => ⟨x :: xs, H2, I2, .cons r1 r2, q2⟩

/-- a tuple, a list of written items -/
noncomputable def tTup (t : TA) : TE := fun σ H Q => t σ H fun xs H1 => xs.length ≤ sizeLine ∧ ∀ p, H1 p = none → Q (.ref p) (upd H1 p (.tup xs))
noncomputable def tLst (t : TA) : TE := fun σ H Q => t σ H fun xs H1 => xs.length ≤ sizeLine ∧ ∀ p, H1 p = none → Q (.ref p) (upd H1 p (.lst xs))
theorem pe_tup {x1} (h : PA X es t) : PE X (.Tuple es x1 pos) (tTup t) := by
  intro pins s σ H Q I hq
  refine wpAny_Tuple_spliced (thn (h pos pins s σ H _ I hq) fun us s1 ⟨xs, H1, I1, r, z, q⟩ => ⟨by rw [← r.length]; exact z, ?_⟩)
  have hf : H1 s1.heap.objs.size = none := I1.hok.fresh (Nat.le_refl _)
  refine ⟨.ref s1.heap.objs.size, upd H1 s1.heap.objs.size (.tup xs), I1.laid (t' := s1.toks) (fun b u e => Heap.get?_push_of_some _ e) (Nat.le_refl _) ?_, rfl, q _ hf⟩
  exact ⟨z, us, r, ⟨_, Heap.get?_push_size _ rfl, rfl, _, rfl⟩⟩
theorem pe_lst (h : PA X es t) : PE X (.List es pos) (tLst t) := by
  intro pins s σ H Q I hq
  refine wpAny_List_spliced (thn (h pos pins s σ H _ I hq) fun us s1 ⟨xs, H1, I1, r, z, q⟩ => ⟨by rw [← r.length]; exact z, ?_⟩)
  have hf : H1 s1.heap.objs.size = none := I1.hok.fresh (Nat.le_refl _)
  refine ⟨.ref s1.heap.objs.size, upd H1 s1.heap.objs.size (.lst xs), I1.laid (t' := s1.toks) (fun b u e => Heap.get?_push_of_some _ e) (Nat.le_refl _) ?_, rfl, q _ hf⟩
  exact ⟨z, us, 0, r, Heap.get?_push_size _ rfl⟩
end

/-! ### what a def promises -/
/-- a def's promise: the bound arguments in the parameters' order, the heap, the wanted end, the wanted exception -/
noncomputable abbrev Sp := List V → Hp → VK → XK → Prop
/-- how an exception lies behind a call (file 08 gives it): the callers' frames, abstract heap and state ahead of the call, the wish, the exception, the state -/
noncomputable abbrev CXT := List Env → Hp → Shared → XK → Value → Shared → Prop

/-- the state at a call -/
structure Env0 (P : Program) (w : World) (K : PySem.W.Frag) (mg : Str → Option Value) (base : Heap) (A : Around) (outer : List Env) (s : Shared) (H : Hp) : Prop where
  frames : A.frames = some outer
  mod : Mod K mg base
  bs : ∀ b o, base.get? b = some o → s.heap.get? b = some o ∧ H b = none
  bsz : base.objs.size ≤ s.heap.objs.size
  funs : s.heap.FunFrames base outer
  frf : ∀ b ∈ frs outer, H b = none
  hok : HOk P w H s.heap
  bare : AllBare s.gens
/-- a call's end -/
noncomputable def CE (outer : List Env) (P : Program) (w : World) (H : Hp) (s : Shared) (Q : VK) (u : Value) (s' : Shared) : Prop :=
  Ex2 fun v H' => s'.os = s.os ∧ AllBare s'.gens ∧ Un (frs outer) [] H H' s.heap s'.heap ∧ HOk P w H' s'.heap ∧ RelV v u ∧ Q v H'
noncomputable def CR (CX : CXT) (outer : List Env) (P : Program) (w : World) (H : Hp) (s : Shared) (Q : VK) (E : XK) (r : Result) (s' : Shared) : Prop :=
  match r with
  | .ok (.ret u) => CE outer P w H s Q u s'
  | .ok _ => False
  | .error e => CX outer H s E e s'
structure FnOk (P : Program) (w : World) (K : PySem.W.Frag) (mg : Str → Option Value) (base : Heap) (CX : CXT) (k : Nat) (f : Addr) (fd : FuncData) (ps : List Str) (sp : Sp) : Prop where
  len : ∀ vs H Q E, sp vs H Q E → vs.length = ps.length
  run : ∀ (A : Around) (outer : List Env) (s : Shared) (H : Hp) (args : Args) (us : List Value) (vs : List V) (Q : VK) (E : XK), Room k A → Env0 P w K mg base A outer s H → BindsTo s fd args (ps.zip us) → Vals vs us → sp vs H Q E →
    codeAny (model P w) A (.call (.ref f) args) (CR CX outer P w H s Q E) s


section
variable {X : Cx} {pins : List (Addr × Obj)} {σ : St} {H : Hp} {s s' : Shared}
/-- from a body: what a callee wants -/
theorem Inv.env0 (I : Inv X pins σ H s) : Env0 X.prog X.w X.K X.mg X.base X.A X.stack s H :=
  ⟨I.ok.frames, I.ok.mod, I.bs, Nat.le_trans I.ok.bsz I.sz, I.stack, I.stkFree, I.hok, I.bare⟩
/-- behind a call -/
theorem Inv.after {Q : VK} {u : Value} (I : Inv X pins σ H s) (h : CE X.stack X.prog X.w H s Q u s') : EP X pins σ Q u s' := by
  obtain ⟨v, H', os, bare, un, hok, r, q⟩ := h
  obtain ⟨hh, g, d, t, os'⟩ := s'
  obtain rfl : os' = s.os := os
  exact ⟨v, H', I.call (h' := hh) (g' := g) (d' := d) (t' := t) (ch := []) un hok bare (fun b z => absurd z (by simp)), r, q⟩
end

/-! ### calls -/
/-- f(..): the written arguments, then the defaults dvs; E: what is wanted of an exception -/
noncomputable def tCall (sp : Sp) (dvs : List V) (E : XK) (t : TA) : TE := fun σ H Q => t σ H fun vs H1 => sp (vs ++ dvs) H1 Q E

/-- how the parameters are bound: us the positional arguments, kw the keywords' values by name, ds the defaults that fill up -/
noncomputable def Binds (K : PySem.W.Frag) (fd : FuncData) (ps : List Str) (ds : List Value) : Prop :=
  ∀ (s : Shared) (us : List Value), K.In s.heap → (us ++ ds).length = ps.length → BindsTo s fd ⟨us, []⟩ (ps.zip (us ++ ds))
/-- every parameter is given -/
theorem Binds.all {K : PySem.W.Frag} {fd : FuncData} {ps : List Str} (h : ∀ us : List Value, us.length = ps.length → bindArgs fd ⟨us, []⟩ = pure (ps.zip us)) : Binds K fd ps [] := fun s us _ hl => by
  rw [List.append_nil] at hl ⊢
  exact .of_eq (h us hl)

/-- an exception of a callee reaches what this body wants of exceptions -/
noncomputable def Passes (CX : CXT) (X : Cx) (E : XK) : Prop := ∀ (pins : List (Addr × Obj)) (σ : St) (H : Hp) (s : Shared) (e : Value) (s' : Shared), Inv X pins σ H s → CX X.stack H s E e s' → X.xe e s'

section
variable {X : Cx} {CX : CXT} {k : Nat} {f C : Addr} {fd : FuncData} {ps : List Str} {sp : Sp} {dvs : List V} {ds : List Value} {E : XK} {x m : Str} {p pos apos : Pos} {e o : Expr} {es : List Expr} {ta : TE} {t : TA}

/-- the callee runs -/
theorem run_fn {pins : List (Addr × Obj)} {σ : St} {H : Hp} {s : Shared} {Q : VK} {us : List Value} {vs : List V} (F : FnOk X.prog X.w X.K X.mg X.base CX k f fd ps sp) (hr : Room k X.A) (hb : Binds X.K fd ps ds) (hd : Vals dvs ds) (hx : Passes CX X E)
    (I : Inv X pins σ H s) (r : Vals vs us) (h : sp (vs ++ dvs) H Q E) : wpAny (model X.prog X.w) X.A (call (.ref f) us) (EP X pins σ Q) X.xe s := by
  have r2 : Vals (vs ++ dvs) (us ++ ds) := r.append hd
  have hl : (us ++ ds).length = ps.length := by rw [← r2.length]; exact F.len _ _ _ _ h
  refine wpAny_call (codeAny_mono (F.run X.A X.stack s H ⟨us, []⟩ (us ++ ds) (vs ++ dvs) Q E hr I.env0 (hb s us I.kIn hl) r2 h) fun r s' hq => ?_)
  cases r with
  | error e => exact hx pins σ H s e s' I hq
  | ok fl =>
    cases fl with
    | ret u => exact I.after hq
    | next => exact False.elim hq
    | brk => exact False.elim hq
    | cont => exact False.elim hq

theorem pe_call (F : FnOk X.prog X.w X.K X.mg X.base CX k f fd ps sp) (hr : Room k X.A) (hg : Gl X x) (hm : X.mg x = some (.ref f)) (hk : PySem.W.keepIn X.K (.ref f) = true) (hb : Binds X.K fd ps ds) (hd : Vals dvs ds) (hx : Passes CX X E)
    (ha : PA X (e :: es) t) (hdb : (x == ("__debug__" : Str)) = false := by decide) (he : starEach (e :: es) X.env = (false, eval e X.env) :: starEach es X.env := by rfl) (hpl : (backTo pos (starEach es X.env)).any (·.1) = false := by rfl) :
    PE X (.Call (.Name x p) (e :: es) [] pos) (tCall sp dvs E t) := by
  intro pins s σ H Q I h
  refine wpAny_Call_Name_kw (ld_glob I hg hm ?_ hdb)
  refine PySem.W.callWith_K (h₀ := X.base) I.ok.mod.kin hk (thn (ha pos pins s σ H _ I h) fun us s1 ⟨vs, H1, I1, r, q⟩ => ⟨I1.kIn, ?_⟩) he hpl
  exact run_fn F hr hb hd hx I1 r q


/-- what a class must have to be made -/
structure Mk (K : PySem.W.Frag) (C f : Addr) : Prop where
  makes : PySem.W.makesIn K C = true
  init : PySem.W.findIn K (.ref C) "__init__" = some (some (.ref f))
  fn : PySem.W.isFn K (.ref f) = true
  kp : PySem.W.keepIn K (.ref C) = true

end

/-! ### keywords -/
section
variable {X : Cx} {CX : CXT} {k : Nat} {f C : Addr} {fd : FuncData} {ps ks : List Str} {sp : Sp} {E : XK} {x m : Str} {p pos apos kpos : Pos} {e o : Expr} {es : List Expr} {kws : List Keyword} {te ta : TE} {t tk : TA} {nm : Option Str}

/-- how a call with keywords binds: g puts the positional values us and the keywords' values ws (names ks) in the parameters' order, defaults among them -/
structure KBinds (K : PySem.W.Frag) (fd : FuncData) (ps ks : List Str) (g : List Value → List Value → List Value) (gV : List V → List V → List V) : Prop where
  to : ∀ (s : Shared) (us ws : List Value), K.In s.heap → (g us ws).length = ps.length → BindsTo s fd ⟨us, ks.zip ws⟩ (ps.zip (g us ws))
  rel : ∀ {vs : List V} {us : List Value} {zs : List V} {ws : List Value}, Vals vs us → Vals zs ws → Vals (gV vs zs) (g us ws)
variable {g : List Value → List Value → List Value} {gV : List V → List V → List V}
end

/-! ### a def's body keeps its promise -/
/-- names: the parameters first -/
structure FnScope (N P : List Str) (sc : Scope) : Prop where
  kind : sc.kind = .function
  co : sc.isCoroutine = false
  gen : sc.isGenerator = false
  nd : N.Nodup
  pre : N.take P.length = P
  par : ∀ x ∈ P, sc.names.lookup x = some .local ∨ sc.names.lookup x = some .cell
  nofree : ∀ y ∈ sc.names, y.2 ≠ .free

theorem bindL_out {kindOf : Str → Option NameKind} {x : Str} : ∀ {binds : List (Str × Value)} {m : Str → Option Value}, (∀ v, (x, v) ∉ binds) → bindL kindOf binds m x = m x
  | [], _, _ => rfl
  | (n, v) :: r, m, h => by
    unfold bindL
    rw [bindL_out fun w hw => h w (List.mem_cons_of_mem _ hw)]
    split
    · have : x ≠ n := by rintro rfl; exact h v List.mem_cons_self
      simp [this]
    · rfl
theorem bindC_out {kindOf : Str → Option NameKind} {x : Str} : ∀ {binds : List (Str × Value)} {m : Str → Option Value}, (∀ v, (x, v) ∉ binds) → bindC kindOf binds m x = m x
  | [], _, _ => rfl
  | (n, v) :: r, m, h => by
    unfold bindC
    rw [bindC_out fun w hw => h w (List.mem_cons_of_mem _ hw)]
    split
    · rfl
    · have : x ≠ n := by rintro rfl; exact h v List.mem_cons_self
      simp [this]
theorem bindL_get {kindOf : Str → Option NameKind} {x : Str} {v : Value} : ∀ {P : List Str} {vs : List Value} {i : Nat} {m : Str → Option Value}, P.Nodup → P[i]? = some x → vs[i]? = some v → kindOf x = some .local →
    bindL kindOf (P.zip vs) m x = some v
  | [], _, _, _, _, h, _, _ => by simp at h
  | _ :: _, [], _, _, _, _, h, _ => by simp at h
  | p :: P, w :: vs, 0, m, nd, h1, h2, hk => by
    simp at h1 h2; subst h1; subst h2
    show bindL kindOf ((p, w) :: P.zip vs) m p = _
    unfold bindL
    rw [bindL_out fun v hv => (List.nodup_cons.mp nd).1 (List.of_mem_zip hv).1, if_pos hk]
    simp
  | p :: P, w :: vs, i + 1, m, nd, h1, h2, hk => by
    show bindL kindOf ((p, w) :: P.zip vs) m x = _
    unfold bindL
    exact bindL_get (i := i) (List.nodup_cons.mp nd).2 (by simpa using h1) (by simpa using h2) hk
theorem bindC_get {kindOf : Str → Option NameKind} {x : Str} {v : Value} : ∀ {P : List Str} {vs : List Value} {i : Nat} {m : Str → Option Value}, P.Nodup → P[i]? = some x → vs[i]? = some v → kindOf x ≠ some .local →
    bindC kindOf (P.zip vs) m x = some v
  | [], _, _, _, _, h, _, _ => by simp at h
  | _ :: _, [], _, _, _, _, h, _ => by simp at h
  | p :: P, w :: vs, 0, m, nd, h1, h2, hk => by
    simp at h1 h2; subst h1; subst h2
    show bindC kindOf ((p, w) :: P.zip vs) m p = _
    unfold bindC
    rw [bindC_out fun v hv => (List.nodup_cons.mp nd).1 (List.of_mem_zip hv).1, if_neg hk]
    simp
  | p :: P, w :: vs, i + 1, m, nd, h1, h2, hk => by
    show bindC kindOf ((p, w) :: P.zip vs) m x = _
    unfold bindC
    exact bindC_get (i := i) (List.nodup_cons.mp nd).2 (by simpa using h1) (by simpa using h2) hk

/-- the names' values at the entry -/
noncomputable def start (N : List Str) (vs : List V) : St := vs.map some ++ List.replicate (N.length - vs.length) none

/-- the context of a def's body, at its entry; an exception leaves the frame, then lies as CX says -/
noncomputable def cxOf (CX : CXT) (P : Program) (w : World) (K : PySem.W.Frag) (mg : Str → Option Value) (base : Heap) (N : List Str) (qual : Str) (scope : Scope) (f : Addr) (cd : Value) (A : Around) (outer : List Env) (s : Shared) (H : Hp) (E : XK) : Cx where
  prog := P
  w := w
  K := K
  mg := mg
  base := base
  A := A.deeper (envOfC qual scope s.heap.objs.size f cd)
  N := N
  s₀ := s
  H₀ := H
  env := envOfC qual scope s.heap.objs.size f cd
  outer := outer
  stack := envOfC qual scope s.heap.objs.size f cd :: outer
  ex := []
  calm := true
  fn := fun _ => true
  pn := []
  xe := fun e s' => wpAny (model P w) (A.deeper (envOfC qual scope s.heap.objs.size f cd)) (leaving (envOfC qual scope s.heap.objs.size f cd) e) (fun _ s'' => CX outer H s E e s'') (fun e' s'' => CX outer H s E e' s'') s'

theorem cell_has {sc : Scope} {n : Nat} {x : Str} (h : sc.names.lookup x = some .cell) : ∃ c, (cellsFrom n sc.names []).lookup x = some c := by
  have q := PySem.W.cellsFrom_some sc.names n [] (.inl h)
  exact Option.isSome_iff_exists.mp q

theorem inv_start {CX : CXT} {P : Program} {w : World} {K : PySem.W.Frag} {mg : Str → Option Value} {base : Heap} {N ps : List Str} {qual : Str} {scope : Scope} {f : Addr} {cd : Value} {A : Around} {outer : List Env} {s s1 : Shared} {H : Hp} {E : XK} {us : List Value} {vs : List V}
    (S : FnScope N ps scope) (hd : A.handled = none) (e0 : Env0 P w K mg base A outer s H) (hl : vs.length = ps.length) (r : Vals vs us)
    (x : InCallC s s.heap.objs.size (bindL (envOfC qual scope s.heap.objs.size f cd).kindOf (ps.zip us) fun _ => none) (cellsFrom (s.heap.objs.size + 1) scope.names []) (bindC (envOfC qual scope s.heap.objs.size f cd).kindOf (ps.zip us) fun _ => none) s1) :
    Inv (cxOf CX P w K mg base N qual scope f cd A outer s H E) [] (start N vs) H s1 := by
  have hpl : ps.length ≤ N.length := by have := congrArg List.length S.pre; rw [List.length_take] at this; lia
  obtain ⟨h1, tk, rfl, hk⟩ := x.done
  have noA : ∀ b : Addr, b ∉ (cxOf CX P w K mg base N qual scope f cd A outer s H E).ex := fun b z => absurd (show b ∈ ([] : List Addr) from z) (by simp)
  refine ⟨⟨e0.mod, S.kind, rfl, rfl, Nat.le_refl _, fun y z c h1 h2 => ?_, fun y hy => ?_, fun y c _ h => ?_, fun _ => hd, Around.frames_deeper e0.frames, .inr ⟨rfl, rfl⟩, fun b z => absurd z (noA b), e0.bs, e0.bsz, fun b _ _ => noA b, fun b z => absurd z (noA b), e0.funs, e0.frf⟩,
    rfl, e0.bare, Un.kept hk, ⟨_, x.toInCall.ns, fun i y v h1 h2 h3 => ?_⟩, fun y c h => ⟨_, x.cell y c h⟩, e0.hok.fresh (Nat.le_refl _), fun y c h => ?_, fun p hp => absurd (show p ∈ ([] : List (Addr × Obj)) from hp) (by simp), e0.hok.kept hk, ?_⟩
  · exact name_of_addr x.apart (PySem.mem_of_lookup h1) (PySem.mem_of_lookup h2)
  · have hy : scope.names.lookup y = some .cell ∨ scope.names.lookup y = some .free := hy
    rcases hy with hy | hy
    · exact cell_has hy
    · exact absurd rfl (S.nofree _ (PySem.mem_of_lookup hy))
  · exact Nat.le_of_lt (x.above y c (PySem.mem_of_lookup h))
  · have hi : i < vs.length := by
      unfold start at h2
      by_cases hi : i < vs.length
      · exact hi
      · rw [List.getElem?_append_right (by simpa using hi)] at h2
        rw [List.getElem?_replicate] at h2
        split at h2 <;> cases h2
    have ha : vs[i]? = some v := by
      unfold start at h2
      rw [List.getElem?_append_left (by simpa using hi), List.getElem?_map] at h2
      cases e : vs[i]? with
      | none => rw [e] at h2; cases h2
      | some a => rw [e] at h2; cases h2; rfl
    obtain ⟨u, hu, rv⟩ := r.get ha
    have hp : ps[i]? = some y := by
      rw [← S.pre, List.getElem?_take_of_lt (by lia)]; exact h1
    have ndP : ps.Nodup := by rw [← S.pre]; exact S.nd.sublist (List.take_sublist _ _)
    refine ⟨u, rv, ?_⟩
    rcases S.par y (List.mem_of_getElem? hp) with k | k
    · exact .inl ⟨k, bindL_get ndP hp hu k⟩
    · obtain ⟨c, e⟩ := cell_has (n := s.heap.objs.size + 1) k
      refine .inr ⟨.inl k, c, e, ?_⟩
      have q := x.cell y c e
      rw [bindC_get ndP hp hu (by show scope.names.lookup y ≠ _; rw [k]; decide)] at q
      exact q
  · exact e0.hok.fresh (Nat.le_of_lt (x.above y c (PySem.mem_of_lookup h)))
  · unfold start
    show _ = N.length
    rw [List.length_append, List.length_map, List.length_replicate]
    lia

/-- THE RULE: a def (or a method) of the text, by its body. The body's reading t is chosen for each entry; it is run at the parameters' values -/
theorem fn_of {CX : CXT} {P : Program} {w : World} {K : PySem.W.Frag} {mg : Str → Option Value} {base : Heap} {k : Nat} {f : Addr} {name qual : Str} {params : Arguments} {body : List Stmt} {scope : Scope} {dV kV doc pm cdv ct oc : Value} {an od : Option Addr}
    {osl : Array (Option Value)} {N ps : List Str} {sp : Sp} (lk : K.lookup f = some ⟨oc, od, .func (PySem.W.fnOf name qual params body scope dV kV doc pm an cdv ct), osl⟩) (hcd : PySem.W.codeIn K cdv qual = true) (S : FnScope N ps scope)
    (len : ∀ vs H Q E, sp vs H Q E → vs.length = ps.length)
    (hbody : ∀ (A : Around) (outer : List Env) (s : Shared) (H : Hp) (vs : List V) (Q : VK) (E : XK), Room k (A.deeper (envOfC qual scope s.heap.objs.size f cdv)) → sp vs H Q E →
      ∃ t, PSs (cxOf CX P w K mg base N qual scope f cdv A outer s H E) body t ∧ t { nx := fun _ H' => Q .non H', rt := Q } (start N vs) H) :
    FnOk P w K mg base CX (k + 1) f (PySem.W.fnOf name qual params body scope dV kV doc pm an cdv ct) ps sp := by
  refine ⟨len, fun A outer s H args us vs Q E hr e0 hb r hsp => ?_⟩
  have hl := len _ _ _ _ hsp
  have KX : K.In s.heap := e0.mod.kin.keeps fun b o e => (e0.bs b o e).1
  have lim : s.heap.NoLimit := e0.mod.nolimit.keeps fun b o e => (e0.bs b o e).1
  have hkind : ∀ y ∈ ps.zip us, scope.names.lookup y.1 = some .local ∨ (scope.names.lookup y.1 = some .cell ∧ ((cellsFrom (s.heap.objs.size + 1) scope.names []).lookup y.1).isSome = true) := fun ⟨n, v⟩ hy => by
    rcases S.par n (List.of_mem_zip hy).1 with q | q
    · exact .inl q
    · exact .inr ⟨q, PySem.W.cellsFrom_some _ _ _ (.inl q)⟩
  refine codeAny_call_function hr.depth (KX _ _ lk) rfl S.co S.gen rfl (PySem.W.codeRec_of KX hcd) (hb _ _ _ _ ?_)
  refine wpAny_newFunctionEnv_cells S.kind hkind fun env he s1 x => ?_
  subst he
  refine ⟨lim.keeps x.toInCall.keep, codeAny_func ?_⟩
  obtain ⟨t, ht, hq⟩ := hbody A outer s H vs Q E (hr.deeper _) hsp
  have I : Inv (cxOf CX P w K mg base N qual scope f cdv A outer s H E) [] (start N vs) H s1 := inv_start S hr.hd e0 hl r x
  refine wpAny_mono (ht [] s1 (start N vs) H _ I hq) (fun fl s' hs => ?_) fun e s' hs => hs
  have fin : ∀ {σ' : St} {H' : Hp} {v : V} {u : Value}, Inv (cxOf CX P w K mg base N qual scope f cdv A outer s H E) [] σ' H' s' → RelV v u → Q v H' → CE outer P w H s Q u s' :=
    fun {σ' H' v u} J rv q => ⟨v, H', J.os, J.bare, J.base, J.hok, rv, q⟩
  cases fl with
  | ret u =>
    obtain ⟨v, σ', H', J, rv, q⟩ := hs
    exact fin J rv q
  | next =>
    obtain ⟨σ', H', J, q⟩ := hs
    exact fin (v := V.non) (u := Value.none) J rfl q
  | brk =>
    obtain ⟨_, _, _, q⟩ := hs
    exact False.elim q
  | cont =>
    obtain ⟨_, _, _, q⟩ := hs
    exact False.elim q
end L2

namespace L2
open PySem PySem.Spec PyProof.Rows
section
variable {X : Cx} {x : Str} {p pos : Pos} {e : Expr} {es : List Expr} {t : TA} {id T : String} {r : List V → Hp → VK → Prop}

noncomputable def tCB (r : List V → Hp → VK → Prop) (t : TA) : TE := fun σ H Q => t σ H fun vs H1 => r vs H1 Q
/-- f(e, ..), f a built-in function -/
theorem pe_callB (hc : CallR X (.builtin id) r) (hg : Gl X x) (hm : X.mg x = none) (hv : bootBuiltins x = some (.builtin id)) (ha : PA X (e :: es) t) (hn : x ≠ "__name__" := by decide) (hdb : (x == ("__debug__" : Str)) = false := by decide)
    (he : starEach (e :: es) X.env = (false, eval e X.env) :: starEach es X.env := by rfl) (hpl : (backTo pos (starEach es X.env)).any (·.1) = false := by rfl) : PE X (.Call (.Name x p) (e :: es) [] pos) (tCB r t) := by
  intro pins s σ H Q I h
  refine wpAny_Call_Name_kw (ld_blt I hg hm hv ?_ hn hdb)
  exact PyProof.Rows.callWith_builtin1 (thn (ha pos pins s σ H _ I h) fun us s1 ⟨vs, H1, I1, r1, q1⟩ => hc pins s1 σ H1 vs us Q I1 r1 q1) he hpl
/-- T(e, ..), T a built-in type -/
theorem pe_callTy (hc : CallR X (.type T) r) (hg : Gl X x) (hm : X.mg x = none) (hv : bootBuiltins x = some (.type T)) (ha : PA X (e :: es) t) (hn : x ≠ "__name__" := by decide) (hdb : (x == ("__debug__" : Str)) = false := by decide)
    (he : starEach (e :: es) X.env = (false, eval e X.env) :: starEach es X.env := by rfl) (hpl : (backTo pos (starEach es X.env)).any (·.1) = false := by rfl) : PE X (.Call (.Name x p) (e :: es) [] pos) (tCB r t) := by
  intro pins s σ H Q I h
  refine wpAny_Call_Name_kw (ld_blt I hg hm hv ?_ hn hdb)
  exact PyProof.Rows.callWith_type1 (thn (ha pos pins s σ H _ I h) fun us s1 ⟨vs, H1, I1, r1, q1⟩ => hc pins s1 σ H1 vs us Q I1 r1 q1) he hpl
end
end L2

namespace HT
open PySem PyProof.Rows




section
variable {prog : Program} {w : World} {A : Around} {E : Value → Shared → Prop} {s : Shared}



/-! ### t[a:b], not the whole -/
/-- a slice's bound as a place among n (d where it is left out) -/
noncomputable def sIx (n d : Nat) : Option Int → Nat
  | none => d
  | some v => if v < 0 then (v + (n : Int)).toNat else min v.toNat n
theorem sIx_none (n d : Nat) : sIx n d none = d := rfl
theorem sIx_nat (n d k : Nat) : sIx n d (some (k : Int)) = min k n := by
  show (if (k : Int) < 0 then ((k : Int) + (n : Int)).toNat else min (k : Int).toNat n) = min k n
  rw [if_neg (by lia), Int.toNat_natCast]

end
end HT

namespace L2
open PySem PySem.Spec PyProof.Rows

/-! ### the parts of a slice -/
noncomputable abbrev TO := St → Hp → (Option Int → Hp → Prop) → Prop
/-- a slice's part (left out, or an int) -/
noncomputable def PO (X : Cx) (e : Option Expr) (t : TO) : Prop :=
  ∀ (pins : List (Addr × Obj)) (s : Shared) (σ : St) (H : Hp) (Q : Option Int → Hp → Prop), Inv X pins σ H s → t σ H Q →
    wpAny (model X.prog X.w) X.A (evalPart e X.env) (fun u s' => Ex2 fun o H' => Inv X pins σ H' s' ∧ IsPart u o ∧ Q o H') X.xe s
noncomputable def tNoPart : TO := fun _ H Q => Q none H
noncomputable def tPart (t : TE) : TO := fun σ H Q => t σ H fun x H1 => ∃ i, x = .int i ∧ Q (some i) H1


section
variable {X : Cx} {e : Expr} {te : TE} {lo hi : Option Expr} {tl th : TO} {pos p2 : Pos}

theorem po_none : PO X none tNoPart := by
  intro pins s σ H Q I h
  rw [evalPart_none]
  exact wpAny_pure ⟨none, H, I, .none, h⟩
theorem po_some (h : PE X e te) : PO X (some e) (tPart te) := by
  intro pins s σ H Q I hw
  rw [evalPart_some]
  refine thn (h pins s σ H _ I hw) fun u s1 hq => ?_
  obtain ⟨x, H1, I1, r1, q1⟩ := hq
  obtain ⟨i, rfl, q⟩ := q1
  obtain ⟨t, rfl⟩ := r1
  exact ⟨some i, H1, I1, .int i t, q⟩

/-- what a slice of a value is, by values: the slice object stands at sl -/
noncomputable def SlR (X : Cx) (r : V → Option Int → Option Int → Hp → VK → Prop) : Prop :=
  ∀ (pins : List (Addr × Obj)) (s : Shared) (σ : St) (H : Hp) (x : V) (v vl vu : Value) (lo hi : Option Int) (sl : Addr) (Q : VK), Inv X pins σ H s → RelV x v → s.heap.IsSliceOf sl vl vu .none → IsPart vl lo → IsPart vu hi → r x lo hi H Q →
    Ex2 fun T id => typeLookup (.type T) "__getitem__" = pure (some (.builtin id)) ∧ s.TypeIs v T ∧ wpAny (model X.prog X.w) X.A (getItem v (.ref sl)) (EP X pins σ Q) X.xe s
noncomputable def tSl (r : V → Option Int → Option Int → Hp → VK → Prop) (te : TE) (tl th : TO) : TE := fun σ H Q => te σ H fun x H1 => tl σ H1 fun l H2 => th σ H2 fun u H3 => r x l u H3 Q
/-- a[lo:hi], any a -/
theorem pe_slice {r : V → Option Int → Option Int → Hp → VK → Prop} (hr : SlR X r) (he : PE X e te) (hl : PO X lo tl) (hu : PO X hi th) : PE X (.Subscript e (.Slice lo hi none p2) pos) (tSl r te tl th) := by
  intro pins s σ H Q I h
  refine Subscript_ (thn (he pins s σ H _ I h) fun v s1 hq => ?_)
  obtain ⟨x, H1, I1, r1, q1⟩ := hq
  refine wpAny_Slice (thn (hl pins s1 σ H1 _ I1 q1) fun vl s2 ⟨l, H2, I2, pl, q2⟩ => thn (hu pins s2 σ H2 _ I2 q2) fun vu s3 hq => ?_)
  obtain ⟨u, H3, I3, pu, q3⟩ := hq
  rw [evalPart_none]
  refine wpAny_pure ?_
  have I4 : Inv X pins σ H3 { s3 with heap := s3.heap.push { cls := .type "slice", data := .fields #[vl, vu, .none] } } := I3.kept (t' := s3.toks) fun b ob q => Heap.get?_push_of_some _ q
  obtain ⟨T, id, hT, ht, hg⟩ := hr pins { s3 with heap := s3.heap.push { cls := .type "slice", data := .fields #[vl, vu, .none] } } σ H3 x v vl vu l u s3.heap.objs.size Q I4 r1 (Heap.IsSliceOf.new ..) pl pu q3
  show wpAny (model X.prog X.w) X.A (subscriptTail e (.Slice lo hi none p2) v (.ref s3.heap.objs.size)) (EP X pins σ Q) X.xe { s3 with heap := s3.heap.push { cls := .type "slice", data := .fields #[vl, vu, .none] } }
  exact tail_any (ops := [.ref s3.heap.objs.size, v]) ht hT hg (by with_unfolding_all rfl)

/-- the items of xs[lo:hi] -/
noncomputable def cutV (xs : List V) (lo hi : Option Int) : List V := (xs.drop (HT.sIx xs.length 0 lo)).take (HT.sIx xs.length xs.length hi - HT.sIx xs.length 0 lo)
theorem cutV_length (xs : List V) (lo hi : Option Int) : (cutV xs lo hi).length ≤ xs.length := by
  unfold cutV
  rw [List.length_take, List.length_drop]
  lia

/-! ### t < u, t + u -/
end
end L2

namespace L2
open PySem PySem.Spec PyProof.Rows

/-! ### places -/
/-- the place that an index of any sign means -/
noncomputable def ixN (n : Nat) (i : Int) : Option Nat := if 0 ≤ i then (if i < n then some i.toNat else none) else if -(n : Int) ≤ i then some (i + n).toNat else none
noncomputable def atI {α : Type} (xs : List α) (i : Int) : Option α := (ixN xs.length i).bind fun j => xs[j]?
theorem ixN_seq {n : Nat} {i : Int} {j : Nat} (h : ixN n i = some j) : seqIndex? i n = some j ∧ j < n ∧ -(n : Int) ≤ i ∧ i < n := by
  unfold ixN at h
  by_cases h0 : 0 ≤ i
  · rw [if_pos h0] at h
    by_cases h1 : i < n
    · rw [if_pos h1] at h
      have e : i.toNat = j := Option.some.inj h
      exact ⟨by rw [seqIndex_of h0 h1, e], by lia, by lia, h1⟩
    · rw [if_neg h1] at h; cases h
  · rw [if_neg h0] at h
    by_cases h1 : -(n : Int) ≤ i
    · rw [if_pos h1] at h
      have e : (i + n).toNat = j := Option.some.inj h
      exact ⟨by rw [seqIndex_neg (by lia) h1, e], by lia, h1, by lia⟩
    · rw [if_neg h1] at h; cases h
theorem atI_get {α : Type} {xs : List α} {i : Int} {v : α} (h : atI xs i = some v) : ∃ j, seqIndex? i xs.length = some j ∧ xs[j]? = some v ∧ j < xs.length ∧ -(xs.length : Int) ≤ i ∧ i < xs.length := by
  unfold atI at h
  cases e : ixN xs.length i with
  | none => rw [e] at h; cases h
  | some j =>
    rw [e] at h
    obtain ⟨h1, h2, h3, h4⟩ := ixN_seq e
    exact ⟨j, h1, h, h2, h3, h4⟩
theorem atI_nat {α : Type} {xs : List α} {j : Nat} {v : α} (h : xs[j]? = some v) : atI xs (j : Int) = some v := by
  have hj : j < xs.length := (List.getElem?_eq_some_iff.mp h).1
  have e : ixN xs.length (j : Int) = some j := by
    unfold ixN
    rw [if_pos (by lia), if_pos (by lia)]; simp
  unfold atI; rw [e]; exact h

/-! ### what may be subscripted -/
/-- what stands as an index of a plain subscript -/
noncomputable def PlainIx (b : Expr) : Prop := ∀ o i, subscripted b false o i = operate [o, i] (getItem o i)
/-- a subscript by values -/
noncomputable def IxR (X : Cx) (r : R2) : Prop :=
  ∀ (value slice : Expr) (pins : List (Addr × Obj)) (s : Shared) (σ : St) (H : Hp) (x y : V) (v u : Value) (Q : VK), Inv X pins σ H s → RelV x v → RelV y u → r x y H Q →
    subscripted slice false v u = operate [v, u] (getItem v u) → wpAny (model X.prog X.w) X.A (subscriptTail value slice v u) (EP X pins σ Q) X.xe s
/-- a call of a builtin's method by values: the receiver, the arguments -/
noncomputable def MtR (X : Cx) (id : String) (r : V → List V → Hp → VK → Prop) : Prop :=
  ∀ (pins : List (Addr × Obj)) (s : Shared) (σ : St) (H : Hp) (x : V) (xs : List V) (v : Value) (us : List Value) (Q : VK), Inv X pins σ H s → RelV x v → Vals xs us → r x xs H Q →
    wpAny (model X.prog X.w) X.A (call (.builtin id) (v :: us)) (EP X pins σ Q) X.xe s
section
variable {X : Cx} {a b : Expr} {ta tb : TE} {pos : Pos}
/-- a[b] -/
theorem pe_ix {r : R2} (hr : IxR X r) (ha : PE X a ta) (hb : PE X b tb) (hs : PlainIx b) : PE X (.Subscript a b pos) (tOp r ta tb) := by
  intro pins s σ H Q I h
  exact Subscript_ (binT ha hb I h fun v u s2 x y H2 I2 rx ry q => hr a b pins s2 σ H2 x y v u Q I2 rx ry q (hs _ _))

inductive GIxL (K : PySem.W.Frag) (x y : V) (H : Hp) (Q : VK) : Prop
  | mk (p : Addr) (xs : List V) (i : Int) (v : V) (a : x = .ref p) (b : y = .int i) (c : SqL K H p xs) (d : atI xs i = some v) (q : Q v H) : GIxL K x y H Q
noncomputable def rIxL (K : PySem.W.Frag) : R2 := fun x y H Q => GIxL K x y H Q
inductive GIxT (K : PySem.W.Frag) (x y : V) (H : Hp) (Q : VK) : Prop
  | mk (p : Addr) (xs : List V) (i : Int) (v : V) (a : x = .ref p) (b : y = .int i) (c : SqT K H p xs) (d : atI xs i = some v) (q : Q v H) : GIxT K x y H Q
noncomputable def rIxT (K : PySem.W.Frag) : R2 := fun x y H Q => GIxT K x y H Q
noncomputable def rIxS : R2 := fun x y H Q => Ex3 fun z i c => x = .str z ∧ y = .int i ∧ z.length ≤ sizeLine ∧ atI z.cps.toList i = some c ∧ Q (.str ⟨#[c]⟩) H
theorem ix_list : IxR X (rIxL X.K) := by
  intro value slice pins s σ H x y v u Q I rx ry h hs
  obtain ⟨p, xs, i, z, rfl, rfl, hq, he, q⟩ := h
  cases rx
  obtain ⟨t, rfl⟩ := ry
  obtain ⟨its, r, pl, hz⟩ := I.list hq
  obtain ⟨j, h1, h2, h3, h4, h5⟩ := atI_get he
  obtain ⟨w, ew, rw'⟩ := r.get h2
  have hl := r.length
  have hn := line63
  have fin : EP X pins σ Q w s := ⟨z, H, I, rw', q⟩
  by_cases h0 : 0 ≤ i
  · have hj : i.toNat = j := by
      rw [seqIndex_of h0 h5] at h1
      exact Option.some.inj h1
    exact item_listR pl.isList h0 (by lia) (by rw [hj]; simpa using ew) fin hs
  · have hj : (i + (its.toArray.size : Int)).toNat = j := by
      rw [seqIndex_neg (by lia) h4] at h1
      rw [List.size_toArray, ← hl]
      exact Option.some.inj h1
    exact subscriptTail_builtinR (x := w) pl.isList.typeIs slot_list_getitem.lookup
      (wpAny_getItem_list_neg (Q := fun r s' => r = w ∧ EP X pins σ Q r s') pl.isList (by lia) (by rw [List.size_toArray] <;> lia) (by lia) (by rw [hj]; simpa using ew) ⟨rfl, fin⟩) hs
theorem ix_tup : IxR X (rIxT X.K) := by
  intro value slice pins s σ H x y v u Q I rx ry h hs
  obtain ⟨p, xs, i, z, rfl, rfl, hq, he, q⟩ := h
  cases rx
  obtain ⟨t, rfl⟩ := ry
  obtain ⟨its, r, pl, hz⟩ := I.tuple hq
  obtain ⟨j, h1, h2, h3, h4, h5⟩ := atI_get he
  obtain ⟨w, ew, rw'⟩ := r.get h2
  have hl := r.length
  have hn := line63
  have fin : EP X pins σ Q w s := ⟨z, H, I, rw', q⟩
  exact subscriptTail_builtinR (x := w) pl.typeIs slot_tuple_getitem.lookup
    (getItem_tuple (j := j) (Q := fun r s' => r = w ∧ EP X pins σ Q r s') pl (by lia) (by lia) (by rw [List.size_toArray, ← hl]; exact h1) (by simpa using ew) ⟨rfl, fin⟩) hs
theorem ix_str : IxR X rIxS := by
  intro value slice pins s σ H x y v u Q I rx ry h hs
  obtain ⟨z, i, c, rfl, rfl, hz, he, q⟩ := h
  obtain ⟨t, rfl⟩ := rx
  obtain ⟨t', rfl⟩ := ry
  obtain ⟨j, h1, h2, h3, h4, h5⟩ := atI_get he
  have hl : z.cps.toList.length = z.length := by simp [Str.length]
  rw [hl] at h1 h4 h5
  have hn := line63
  exact tail_any (typeIs_str s z t) slot_str_getitem.lookup (getItem_str (c := c) (by
    have e1 : decide (i < -(2 ^ 63 : Int)) = false := decide_eq_false (by lia)
    have e2 : decide (i ≥ 2 ^ 63) = false := decide_eq_false (by lia)
    rw [e1, e2, Bool.or_false]) (by rw [h1]; simpa using h2) ⟨.str ⟨#[c]⟩, H, I.tok _, ⟨_, rfl⟩, q⟩) hs

/-! ### xs[i] = v, any sign -/
/-- the list's object behind a store -/
theorem mapSeq_set (its : List Value) (n j : Nat) (u : Value) : Obj.mapSeq (·.setIfInBounds j u) { cls := .type "list", data := .seq its.toArray n } = { cls := .type "list", data := .seq (its.set j u).toArray n } := by
  simp [Obj.mapSeq]
theorem Inv.lst {pins : List (Addr × Obj)} {σ : St} {H : Hp} {s : Shared} {p : Addr} {xs : List V} (I : Inv X pins σ H s) (h : H p = some (.lst xs)) :
    Ex2 fun (its : List Value) (n : Nat) => Vals xs its ∧ s.heap.get? p = some { cls := .type "list", data := .seq its.toArray n } ∧ xs.length ≤ sizeLine := by
  obtain ⟨z, its, n, r, e⟩ := I.hok p _ h
  exact ⟨its, n, r, e, z⟩
/-- the list at p is written by an update of its object -/
theorem Inv.lstUpd {pins : List (Addr × Obj)} {σ : St} {H : Hp} {s : Shared} {p : Addr} {xs ys : List V} {its its' : List Value} {n n' : Nat} {f : Obj → Obj} (I : Inv X pins σ H s) (h : H p = some (.lst xs))
    (ho : s.heap.get? p = some { cls := .type "list", data := .seq its.toArray n }) (hf : f { cls := .type "list", data := .seq its.toArray n } = { cls := .type "list", data := .seq its'.toArray n' }) (r : Vals ys its') (hz : ys.length ≤ sizeLine) (t : Nat) :
    Inv X pins σ (upd H p (.lst ys)) { s with heap := s.heap.update p f, toks := t } := by
  have e : (s.heap.update p f).get? p = some { cls := .type "list", data := .seq its'.toArray n' } := by
    rw [Heap.get?_update_self f ho (by rw [hf] <;> rfl), hf]
  refine I.write (x := p) (e := p) (by rw [h]; trivial) (.inl rfl) (fun b u hb q => (Heap.get?_update_other _ _ (Ne.symm hb)).trans q) ⟨_, e⟩ ?_
  exact ⟨hz, its', n', r, e⟩
noncomputable def rSetL : V → V → V → Hp → (Hp → Prop) → Prop := fun o i v H Q => Ex4 fun p xs k j => o = .ref p ∧ i = .int k ∧ H p = some (.lst xs) ∧ ixN xs.length k = some j ∧ Q (upd H p (.lst (xs.set j v)))
theorem set_list : PSet X rSetL := by
  intro pins s σ H o i v ov iv u Q I ro ri rv h
  obtain ⟨p, xs, k, j, rfl, rfl, hp, hj, q⟩ := h
  cases ro
  obtain ⟨t, rfl⟩ := ri
  obtain ⟨its, n, r, ho, hz⟩ := I.lst hp
  obtain ⟨h1, h2, h3, h4⟩ := ixN_seq hj
  have hl := r.length
  have hn := line63
  have I' : Inv X pins σ (upd H p (.lst (xs.set j v))) { s with heap := s.heap.update p (Obj.mapSeq (·.setIfInBounds j u)) } :=
    I.lstUpd hp ho (mapSeq_set its n j u) (r.set rv j) (by rw [List.length_set]; exact hz) s.toks
  by_cases h0 : 0 ≤ k
  · have hk : k.toNat = j := by
      rw [seqIndex_of h0 h4] at h1
      exact Option.some.inj h1
    exact PySem.W.ki_setAt ho h0 (by lia) (by rw [List.size_toArray, ← hl]; exact h4) (by rw [hk]; exact ⟨_, I', q⟩)
  · have hk : (k + (its.toArray.size : Int)).toNat = j := by
      rw [seqIndex_neg (by lia) h3] at h1
      rw [List.size_toArray, ← hl]
      exact Option.some.inj h1
    exact PySem.W.ki_setBack ho (by lia) (by rw [List.size_toArray, ← hl]; exact h3) (by lia) (by rw [hk]; exact ⟨_, I', q⟩)

/-! ### slices -/
theorem slice_bounds (lo hi : Option Int) (n : Nat) : (sliceBounds lo hi none n).1 = ((HT.sIx n 0 lo : Nat) : Int) ∧ (sliceBounds lo hi none n).2.1 = ((HT.sIx n n hi : Nat) : Int) ∧ (sliceBounds lo hi none n).2.2 = 1 := by
  refine ⟨?_, ?_, rfl⟩
  · cases lo with
    | none => simp [sliceBounds, HT.sIx]
    | some i =>
      simp only [sliceBounds, HT.sIx, Option.getD_none, show (1 : Int) > 0 by decide, if_true]
      by_cases h : i < 0
      · simp only [h, if_true] <;> lia
      · simp only [h, if_false] <;> lia
  · cases hi with
    | none => simp [sliceBounds, HT.sIx]
    | some i =>
      simp only [sliceBounds, HT.sIx, Option.getD_none, show (1 : Int) > 0 by decide, if_true]
      by_cases h : i < 0
      · simp only [h, if_true] <;> lia
      · simp only [h, if_false] <;> lia
theorem slicePick_cut (its : List Value) (lo hi : Option Int) : slicePick its.toArray lo hi none = ((its.drop (HT.sIx its.length 0 lo)).take (HT.sIx its.length its.length hi - HT.sIx its.length 0 lo)).toArray := by
  obtain ⟨h1, h2, h3⟩ := slice_bounds lo hi its.toArray.size
  unfold slicePick
  rw [h1, h2, h3]
  simp only [sliceRange_one, pick_run, List.size_toArray] <;> rfl
/-- xs[lo:hi] of a list: a new list -/
noncomputable def rSlL (K : PySem.W.Frag) : V → Option Int → Option Int → Hp → VK → Prop := fun x lo hi H Q => Ex2 fun a xs => x = .ref a ∧ SqL K H a xs ∧ ∀ p, H p = none → Q (.ref p) (upd H p (.lst (cutV xs lo hi)))
theorem sl_list : SlR X (rSlL X.K) := by
  intro pins s σ H x v vl vu lo hi sl Q I rx hs pl pu h
  obtain ⟨a, xs, rfl, hx, q⟩ := h
  cases rx
  obtain ⟨its, r, ht, hz⟩ := I.list hx
  have hlen := r.length
  refine ⟨"list", _, slot_list_getitem.lookup, ht.isList.typeIs, ?_⟩
  refine wpAny_getItem_list_slice ht.isList hs pl pu .none (by simp) ?_ (by rw [List.size_toArray] <;> lia)
  rw [slicePick_cut, ← hlen]
  refine ⟨.ref s.heap.objs.size, _, I.laid (t' := s.toks) (o := .lst (cutV xs lo hi)) (fun b ob q => Heap.get?_push_of_some _ q) (Nat.le_refl _) ?_, rfl, q _ (I.hok.fresh (Nat.le_refl _))⟩
  exact ⟨Nat.le_trans (cutV_length xs lo hi) hz, _, 0, (r.drop (HT.sIx xs.length 0 lo)).take (HT.sIx xs.length xs.length hi - HT.sIx xs.length 0 lo), Heap.get?_push_size _ rfl⟩

/-! ### in, not in: flat items -/
noncomputable def flatV : V → Bool
  | .non => true
  | .bl _ => true
  | .int _ => true
  | .str _ => true
  | _ => false
/-- == of flat values -/
noncomputable def eqV : V → V → Bool
  | .non, .non => true
  | .bl a, .bl b => a == b
  | .bl a, .int b => (if a then 1 else 0) == b
  | .int a, .bl b => a == (if b then 1 else 0)
  | .int a, .int b => a == b
  | .str a, .str b => a == b
  | _, _ => false
theorem eqAt_V {A : Around} {s : Shared} {y x : V} {u v : Value} (ry : RelV y u) (rx : RelV x v) (fy : flatV y = true) (fx : flatV x = true) : SeqAt.EqAt A s u v (eqV y x) := by
  cases y with
  | non =>
    cases ry
    cases x with
    | non => cases rx; exact SeqAt.EqAt.same _
    | bl b => cases rx; exact SeqAt.EqAt.none_bool b
    | int b => obtain ⟨t, rfl⟩ := rx; exact SeqAt.EqAt.none_int b t
    | str b => obtain ⟨t, rfl⟩ := rx; exact SeqAt.EqAt.none_str b t
    | _ => exact absurd (show false = true from fx) Bool.false_ne_true
  | bl a =>
    cases ry
    cases x with
    | non => cases rx; exact SeqAt.EqAt.bool_none a
    | bl b => cases rx; exact SeqAt.EqAt.bool_bool a b
    | int b => obtain ⟨t, rfl⟩ := rx; exact SeqAt.EqAt.bool_int a b t
    | str b => obtain ⟨t, rfl⟩ := rx; exact SeqAt.EqAt.bool_str a b t
    | _ => exact absurd (show false = true from fx) Bool.false_ne_true
  | int a =>
    obtain ⟨t', rfl⟩ := ry
    cases x with
    | non => cases rx; exact SeqAt.EqAt.int_none a t'
    | bl b => cases rx; exact SeqAt.EqAt.int_bool a t' b
    | int b => obtain ⟨t, rfl⟩ := rx; exact SeqAt.EqAt.int_int a t' b t
    | str b => obtain ⟨t, rfl⟩ := rx; exact SeqAt.EqAt.int_str a t' b t
    | _ => exact absurd (show false = true from fx) Bool.false_ne_true
  | str a =>
    obtain ⟨t', rfl⟩ := ry
    cases x with
    | non => cases rx; exact SeqAt.EqAt.str_none a t'
    | bl b => cases rx; exact SeqAt.EqAt.str_bool a t' b
    | int b => obtain ⟨t, rfl⟩ := rx; exact SeqAt.EqAt.str_int a t' b t
    | str b => obtain ⟨t, rfl⟩ := rx; exact SeqAt.EqAt.str_str a t' b t
    | _ => exact absurd (show false = true from fx) Bool.false_ne_true
  | _ => exact absurd (show false = true from fy) Bool.false_ne_true
/-- the items' answers, read off the values (a value's own answer does not lean on its token) -/
noncomputable def eqU (x : V) (u : Value) : Bool := match u with
  | .none => eqV .non x
  | .bool b => eqV (.bl b) x
  | .int i _ => eqV (.int i) x
  | .str z _ => eqV (.str z) x
  | _ => false
theorem eqU_of {x y : V} {u : Value} (r : RelV y u) (f : flatV y = true) : eqU x u = eqV y x := by
  cases y with
  | non => cases r; rfl
  | bl b => cases r; rfl
  | int i => obtain ⟨t, rfl⟩ := r; rfl
  | str z => obtain ⟨t, rfl⟩ := r; rfl
  | _ => exact absurd (show false = true from f) Bool.false_ne_true
theorem any_eqU {x : V} : ∀ {xs : List V} {us : List Value}, Vals xs us → xs.all flatV = true → us.any (eqU x) = xs.any fun y => eqV y x
  | _, _, .nil, _ => rfl
  | y :: xs, u :: us, .cons r t, f => by
    rw [List.all_cons, Bool.and_eq_true] at f
    rw [List.any_cons, List.any_cons, eqU_of r f.1, any_eqU t f.2]
theorem mem_eqAt {A : Around} {s : Shared} {x : V} {v : Value} (rx : RelV x v) (fx : flatV x = true) : ∀ {xs : List V} {us : List Value}, Vals xs us → xs.all flatV = true → ∀ u ∈ us, SeqAt.EqAt A s u v (eqU x u)
  | _, _, .nil, _ => fun u hu => by cases hu
  | y :: xs, u :: us, .cons r t, f => fun u' hu => by
    rw [List.all_cons, Bool.and_eq_true] at f
    rcases List.mem_cons.mp hu with rfl | hu
    · rw [eqU_of r f.1]; exact eqAt_V r rx f.1 fx
    · exact mem_eqAt rx fx t f.2 u' hu
noncomputable def inV (x : V) (xs : List V) : Bool := xs.any fun y => eqV y x
/-- x in a list or tuple of flat items -/
inductive GIn (K : PySem.W.Frag) (neg : Bool) (x y : V) (H : Hp) (Q : VK) : Prop
  | mk (p : Addr) (xs : List V) (a : y = .ref p) (b : SqL K H p xs ∨ SqT K H p xs) (c : flatV x = true) (d : xs.all flatV = true) (q : Q (.bl (if neg then !inV x xs else inV x xs)) H) : GIn K neg x y H Q
noncomputable def rIn (K : PySem.W.Frag) (neg : Bool) : R2 := fun x y H Q => GIn K neg x y H Q
theorem op_in_seq : OpR X (compareOp .In) (rIn X.K false) := by
  intro pins s σ H x y v u Q I rx ry h
  obtain ⟨p, xs, rfl, hq, fx, fs, q⟩ := h
  cases ry
  rcases hq with hq | hq
  · obtain ⟨its, r, pl, hz⟩ := I.list hq
    refine SeqAt.in_listAt (eqU x) pl.isList (fun w hw => mem_eqAt rx fx r fs w (by simpa using hw)) ⟨.bl _, H, I, rfl, ?_⟩
    rw [show its.toArray.any (eqU x) = its.any (eqU x) by simp, any_eqU r fs]
    exact q
  · obtain ⟨its, r, pl, hz⟩ := I.tuple hq
    refine SeqAt.in_tupleAt (eqU x) pl (fun w hw => mem_eqAt rx fx r fs w (by simpa using hw)) ⟨.bl _, H, I, rfl, ?_⟩
    rw [show its.toArray.any (eqU x) = its.any (eqU x) by simp, any_eqU r fs]
    exact q

/-! ### len, list(x), tuple(x) of any list or tuple that is read -/
inductive GLen (K : PySem.W.Frag) (xs : List V) (H : Hp) (Q : VK) : Prop
  | mk (p : Addr) (ys : List V) (e : xs = [.ref p]) (h : SqL K H p ys ∨ SqT K H p ys) (q : Q (.int ys.length) H) : GLen K xs H Q
theorem call_len_seq : CallR X (.builtin "len") (fun xs H Q => GLen X.K xs H Q) := by
  intro pins s σ H xs us Q I r h
  obtain ⟨p, ys, rfl, hq, q⟩ := h
  obtain ⟨u, rfl, rx⟩ := vals1 r
  cases rx
  have hn := line63
  rcases hq with hq | hq
  · obtain ⟨its, r', pl, hz⟩ := I.list hq
    have hlen := r'.length
    exact Calls.call_len_list pl.isList (by simp only [List.size_toArray] <;> lia) ⟨.int ys.length, H, I.tok _, ⟨s.toks + 1, by rw [List.size_toArray, hlen]⟩, q⟩
  · obtain ⟨its, r', pl, hz⟩ := I.tuple hq
    have hlen := r'.length
    exact len_tuple pl (by simp only [List.size_toArray] <;> lia) ⟨.int ys.length, H, I.tok _, ⟨s.toks + 1, by rw [List.size_toArray, hlen]⟩, q⟩
theorem call_tuple_of : CallR X (.type "tuple") (fun xs H Q => Ex2 fun p ys => xs = [.ref p] ∧ ((SqL X.K H p ys ∧ ∀ l, H l = none → Q (.ref l) (upd H l (.tup ys))) ∨ (SqT X.K H p ys ∧ Q (.ref p) H))) := by
  intro pins s σ H xs us Q I r h
  obtain ⟨p, ys, rfl, h⟩ := h
  obtain ⟨u, rfl, rx⟩ := vals1 r
  cases rx
  rcases h with ⟨hq, q⟩ | ⟨hq, q⟩
  · obtain ⟨its, r', pl, hz⟩ := I.list hq
    have hlen := r'.length
    refine call_tuple_list pl.isList (fun h' kp => ?_) (by simp only [List.size_toArray] <;> lia)
    have I1 : Inv X pins σ H { s with heap := h' } := I.kept (t' := s.toks) kp
    have I2 : Inv X pins σ (upd H h'.objs.size (.tup ys)) { s with heap := h'.push { cls := .type "tuple", data := .seq its.toArray } } :=
      I1.laid (t' := s.toks) (fun b o e => Heap.get?_push_of_some _ e) (Nat.le_refl _) (show ObjOk X.prog X.w _ _ _ (.tup ys) from ⟨hz, its, r', IsTup.new _ _⟩)
    exact ⟨.ref h'.objs.size, _, I2, rfl, q _ (I1.hok.fresh (Nat.le_refl _))⟩
  · obtain ⟨its, r', pl, hz⟩ := I.tuple hq
    exact call_tuple_same pl ⟨.ref p, H, I, rfl, q⟩

/-! ### the call of a builtin's method: o.m(..) -/
/-- the value is of that builtin type -/
noncomputable def tyV (K : PySem.W.Frag) (T : String) (x : V) (H : Hp) : Prop := match x with
  | .str _ => T = "str"
  | .int _ => T = "int"
  | .ref p => (T = "list" ∧ ∃ xs, SqL K H p xs) ∨ (T = "tuple" ∧ ∃ o, K.lookup p = some o ∧ o.cls = .type "tuple" ∧ o.dict = none) ∨
      (T = "dict" ∧ ((∃ kvs, H p = some (.dK kvs)) ∨ ∃ kvs, H p = some (.dT kvs))) ∨ (T = "set" ∧ Ex2 fun S n => H p = some (.set S n))
  | _ => False
theorem tyV_is {pins : List (Addr × Obj)} {σ : St} {H : Hp} {s : Shared} {T : String} {x : V} {v : Value} (I : Inv X pins σ H s) (r : RelV x v) (ty : tyV X.K T x H) :
    s.TypeIs v T ∧ ∀ a, v = .ref a → ∃ ob, s.heap.get? a = some ob ∧ ob.dict = none := by
  cases x with
  | str z =>
    obtain ⟨t, rfl⟩ := r
    cases (show T = "str" from ty)
    exact ⟨typeIs_str s z t, fun _ e => nomatch e⟩
  | int i =>
    obtain ⟨t, rfl⟩ := r
    cases (show T = "int" from ty)
    exact ⟨typeIs_int s i t, fun _ e => nomatch e⟩
  | ref p =>
    cases r
    rcases ty with ⟨rfl, xs, hq⟩ | ⟨rfl, o, hk, hc, hd⟩ | ⟨rfl, hk⟩ | ⟨rfl, S, n, hk⟩
    · obtain ⟨its, _, pl, _⟩ := I.list hq
      refine ⟨pl.isList.typeIs, fun a e => ?_⟩
      cases e
      obtain ⟨o, n, e, c, hd, _⟩ := pl
      exact ⟨o, e, hd⟩
    · refine ⟨⟨o, I.kIn p o hk, hc⟩, fun a e => ?_⟩
      cases e
      exact ⟨o, I.kIn _ o hk, hd⟩
    · have z : ∃ o, s.heap.get? p = some o ∧ o.ExactDict := by
        rcases hk with ⟨kvs, hk⟩ | ⟨kvs, hk⟩
        · obtain ⟨_, _, _, _, o, _, _, e, ex, _⟩ := I.hok p _ hk
          exact ⟨o, e, ex⟩
        · obtain ⟨_, _, _, _, o, _, _, e, ex, _⟩ := I.hok p _ hk
          exact ⟨o, e, ex⟩
      obtain ⟨o, e, ex⟩ := z
      refine ⟨⟨o, e, ex.1⟩, fun a e2 => ?_⟩
      cases e2
      exact ⟨o, e, ex.2.1⟩
    · obtain ⟨o, _, _, _, e, ex, _⟩ := I.hok p _ hk
      refine ⟨⟨o, e, ex.1⟩, fun a e2 => ?_⟩
      cases e2
      exact ⟨o, e, ex.2.1⟩
  | _ => exact False.elim ty
noncomputable def tBM (K : PySem.W.Frag) (T : String) (r : V → List V → Hp → VK → Prop) (to : TE) (t : TA) : TE := fun σ H Q => to σ H fun x H1 => tyV K T x H1 ∧ t σ H1 fun xs H2 => r x xs H2 Q
variable {o e : Expr} {es : List Expr} {to : TE} {t : TA} {name : Str} {apos cpos : Pos} {T id : String} {r : V → List V → Hp → VK → Prop}
theorem pe_bm (pa : PlainAttrs T) (slot : Slot T name id) (hty : typeOf (.builtin id) = pure (.type "method_descriptor")) (hm : MtR X id r) (ho : PE X o to) (ha : PA X (e :: es) t)
    (hbase : attributeBase o name X.env (eval o X.env) = eval o X.env := by rfl)
    (hfew : ((backTo cpos (starEach (e :: es) X.env)).all (fun x => !x.1) && (backToKw cpos (keywordEach [] X.env)).all (fun x => x.1.isSome)
      && decide ((e :: es).length + ([] : List Keyword).length + (if ([] : List Keyword).isEmpty then 0 else 1) < 30)) = true := by rfl)
    (hline : (apos.endLine == cpos.line) = true := by rfl) (hs : starEach (e :: es) X.env = (false, eval e X.env) :: starEach es X.env := by rfl) (hplain : (backTo cpos (starEach es X.env)).any (·.1) = false := by rfl) :
    PE X (.Call (.Attribute o name apos) (e :: es) [] cpos) (tBM X.K T r to t) := by
  intro pins s σ H Q I h
  refine wpAny_Call_method_late hbase hfew hline rfl (thn (ho pins s σ H _ I h) fun v s1 hq => ?_)
  obtain ⟨x, H1, I1, r1, ty, q1⟩ := hq
  obtain ⟨h1, h2⟩ := tyV_is I1 r1 ty
  refine ⟨T, id, pa, slot, hty, h1, h2, ?_⟩
  have hA := ha cpos pins s1 σ H1 _ I1 q1
  rw [hs] at hA ⊢
  refine Calls.callWith_builtin (by show (false || (backTo cpos (starEach es X.env)).any (·.1)) = false; rw [hplain] <;> rfl) (Calls.evalArgs_plain ?_)
  exact thn hA fun us s2 ⟨vs, H2, I2, r2, q2⟩ => hm pins s2 σ H2 x vs v us Q I2 r1 r2 q2
/- xs.append(e), list.index on a module's tuple .. are MtR facts of 06m -/
end
end L2

namespace L2
open PySem PySem.Spec PyProof.Rows

noncomputable def MtM (X : Cx) (id : String) (r : V → List V → Hp → VK → Prop) : Prop :=
  ∀ (pins : List (Addr × Obj)) (s : Shared) (σ : St) (H : Hp) (x : V) (xs : List V) (v : Value) (us : List Value) (Q : VK), Inv X pins σ H s → RelV x v → Vals xs us → r x xs H Q →
    wpAny (model X.prog X.w) X.A (call (.builtin id) (v :: us)) (EP X pins σ Q) X.xe s

/-! ### lists of values -/
theorem Vals.one {x : V} {us : List Value} (h : Vals [x] us) : ∃ u, us = [u] ∧ RelV x u := by
  cases h with | cons r t => cases t; exact ⟨_, rfl, r⟩
theorem Vals.zero : ∀ {us : List Value}, Vals [] us → us = []
  | _, .nil => rfl
theorem Vals.dropLast {xs : List V} {us : List Value} (h : Vals xs us) : Vals xs.dropLast us.dropLast := by
  induction h with
  | nil => exact .nil
  | cons r t ih =>
    cases t with
    | nil => exact .nil
    | cons q t' => exact .cons r ih
theorem Vals.eraseIdx : ∀ {xs : List V} {us : List Value} (i : Nat), Vals xs us → Vals (xs.eraseIdx i) (us.eraseIdx i)
  | _, _, _, .nil => .nil
  | _, _, 0, .cons _ t => t
  | _, _, i + 1, .cons r t => .cons r (Vals.eraseIdx i t)
theorem Vals.reverse {xs : List V} {us : List Value} (h : Vals xs us) : Vals xs.reverse us.reverse := by
  induction h with
  | nil => exact .nil
  | cons r t ih => rw [List.reverse_cons, List.reverse_cons]; exact Vals.append ih (.cons r .nil)
theorem Vals.rep {xs : List V} {us : List Value} (h : Vals xs us) : ∀ k : Nat, Vals (List.replicate k xs).flatten (List.replicate k us).flatten
  | 0 => .nil
  | k + 1 => by
    rw [List.replicate_succ, List.replicate_succ, List.flatten_cons, List.flatten_cons]
    exact Vals.append h (Vals.rep h k)
theorem erase_last {α : Type} (l : List α) : l.eraseIdx (l.length - 1) = l.dropLast := by
  induction l with
  | nil => rfl
  | cons a r ih =>
    cases r with
    | nil => rfl
    | cons b r =>
      have e : (a :: b :: r).length - 1 = ((b :: r).length - 1) + 1 := by
        have h1 : (a :: b :: r).length = r.length + 2 := rfl
        have h2 : (b :: r).length = r.length + 1 := rfl
        lia
      rw [e, List.eraseIdx_cons_succ, ih]
      all_goals rfl
theorem len_erase {α : Type} : ∀ (l : List α) (i : Nat), (l.eraseIdx i).length ≤ l.length
  | [], _ => Nat.le_refl _
  | _ :: _, 0 => Nat.le_succ _
  | _ :: r, i + 1 => Nat.succ_le_succ (len_erase r i)
theorem foldl_rep (its : List Value) : ∀ (k : Nat) (acc : List Value),
    List.foldl (fun x1 x2 => x1 ++ x2) acc.toArray (List.replicate k its.toArray) = (acc ++ (List.replicate k its).flatten).toArray
  | 0, acc => by simp
  | k + 1, acc => by
    have e : acc.toArray ++ its.toArray = (acc ++ its).toArray := by simp
    have e2 : (acc ++ its) ++ (List.replicate k its).flatten = acc ++ (List.replicate (k + 1) its).flatten := by
      rw [List.replicate_succ, List.flatten_cons, List.append_assoc]
    rw [← e2, ← foldl_rep its k (acc ++ its), ← e, List.replicate_succ, List.foldl_cons]

section
variable {X : Cx} {pins : List (Addr × Obj)} {σ : St} {H : Hp} {s : Shared} {l b : Addr} {xs ys zs : List V}

/-! ### the two steps: a tracked list is rewritten, a new list is laid -/
theorem Inv.lset {its its' : List Value} {n : Nat} {f : Array Value → Array Value} {t' : Nat} (I : Inv X pins σ H s) (hH : H l = some (.lst xs))
    (e : s.heap.get? l = some { cls := .type "list", data := .seq its.toArray n }) (hf : f its.toArray = its'.toArray) (hv : Vals ys its') (hz : ys.length ≤ sizeLine) :
    Inv X pins σ (upd H l (.lst ys)) { s with heap := s.heap.update l (Obj.mapSeq f), toks := t' } := by
  have q := PySem.IsL.update e f
  rw [hf] at q
  refine I.write (x := l) (e := l) (by rw [hH]; exact trivial) (.inl rfl) (fun b' u hb hu => (Heap.get?_update_other s.heap (Obj.mapSeq f) (Ne.symm hb)).trans hu) ⟨_, q⟩ ?_
  exact ⟨hz, its', _, hv, q⟩
theorem Inv.lnew {its : List Value} {t' : Nat} (I : Inv X pins σ H s) (hv : Vals ys its) (hz : ys.length ≤ sizeLine) :
    Inv X pins σ (upd H s.heap.objs.size (.lst ys)) { s with heap := s.heap.push { cls := .type "list", data := .seq its.toArray }, toks := t' } :=
  I.laid (fun _ _ q => Heap.get?_push_of_some _ q) (Nat.le_refl _) ⟨hz, its, 0, hv, Heap.get?_push_size _ rfl⟩
theorem Inv.fresh (I : Inv X pins σ H s) : H s.heap.objs.size = none := I.hok.fresh (Nat.le_refl _)
theorem Inv.lstM (I : Inv X pins σ H s) (hH : H l = some (.lst xs)) : xs.length ≤ sizeLine ∧ Ex2 fun (its : List Value) (n : Nat) => Vals xs its ∧ xs.length = its.length ∧ s.heap.get? l = some { cls := .type "list", data := .seq its.toArray n } := by
  obtain ⟨z, its, n, r, e⟩ := I.hok l _ hH
  exact ⟨z, its, n, r, r.length, e⟩

theorem notLongL {n : Nat} (h : n ≤ sizeLine) : Builtin.List.listTooLong n = false := by
  unfold Builtin.List.listTooLong
  exact decide_eq_false (by lia)
end

section
variable {X : Cx}

/-! ### methods -/
noncomputable def rAppend : V → List V → Hp → VK → Prop := fun x vs H Q => Ex3 fun l xs y => x = .ref l ∧ vs = [y] ∧ H l = some (.lst xs) ∧ xs.length < sizeLine ∧ Q .non (upd H l (.lst (xs ++ [y])))
theorem mt_append : MtM X "list.append" rAppend := by
  intro pins s σ H x vs v us Q I rx rv h
  obtain ⟨l, xs, y, rfl, rfl, hH, hz, q⟩ := h
  cases rx
  obtain ⟨u, rfl, ru⟩ := rv.one
  obtain ⟨z, its, n, r, hl, e⟩ := I.lstM hH
  refine call_meets F.slot_list_append ⟨_, e, rfl⟩ F.entry_list_append (F.args_list_append_2 _ _) (PySem.list_append l its.toArray n u (by rw [List.size_toArray]; lia)) ⟨e, ?_⟩
  refine ⟨.non, _, I.lset (its' := its ++ [u]) hH e (by simp) (r.append (.cons ru .nil)) ?_, rfl, q⟩
  rw [List.length_append, List.length_singleton]
  lia

noncomputable def rExtend : V → List V → Hp → VK → Prop := fun x vs H Q => Ex4 fun l b xs zs => x = .ref l ∧ vs = [.ref b] ∧ H l = some (.lst xs) ∧ H b = some (.lst zs) ∧ xs.length + zs.length ≤ sizeLine ∧ Q .non (upd H l (.lst (xs ++ zs)))
theorem mt_extend : MtM X "list.extend" rExtend := by
  intro pins s σ H x vs v us Q I rx rv h
  obtain ⟨l, b, xs, zs, rfl, rfl, hH, hB, hz, q⟩ := h
  cases rx
  obtain ⟨u, rfl, ru⟩ := rv.one
  cases ru
  obtain ⟨z, its, n, r, hl, e⟩ := I.lstM hH
  obtain ⟨z2, its2, n2, r2, hl2, e2⟩ := I.lstM hB
  have hsz : its.toArray.size + its2.toArray.size ≤ sizeLine := by rw [List.size_toArray, List.size_toArray]; lia
  have hlong : ¬ (!its.toArray.isEmpty && Builtin.List.listTooLong (its.toArray.size + its2.toArray.size)) = true := by
    rw [notLongL hsz, Bool.and_false]
    exact Bool.false_ne_true
  refine call_meets F.slot_list_extend ⟨_, e, rfl⟩ F.entry_list_extend (F.args_list_extend_2 _ _)
    (AutoSeq1.list_extend_list_list_0 l its.toArray n b its2.toArray n2 hlong (by rw [List.size_toArray]; lia) (by lia)) ⟨e, e2, ?_⟩
  refine ⟨.non, _, I.lset (its' := its ++ its2) hH e (by simp) (r.append r2) ?_, rfl, q⟩
  rw [List.length_append]
  lia

noncomputable def rPop : V → List V → Hp → VK → Prop := fun x vs H Q => Ex3 fun l xs y => x = .ref l ∧ vs = [] ∧ H l = some (.lst xs) ∧ xs[xs.length - 1]? = some y ∧ Q y (upd H l (.lst xs.dropLast))
theorem mt_pop : MtM X "list.pop" rPop := by
  intro pins s σ H x vs v us Q I rx rv h
  obtain ⟨l, xs, y, rfl, rfl, hH, hy, q⟩ := h
  cases rx
  have hus := rv.zero
  subst hus
  obtain ⟨z, its, n, r, hl, e⟩ := I.lstM hH
  obtain ⟨u, hu, ru⟩ := r.get hy
  have hy' : its.toArray[its.toArray.size - 1]? = some u := by
    show its.toArray[its.length - 1]? = some u
    rw [← Array.getElem?_toList, ← hl]
    exact hu
  refine call_meets F.slot_list_pop ⟨_, e, rfl⟩ F.entry_list_pop (F.args_list_pop_1 _) (MeetsSeq.list_pop_last l its.toArray n u hy' (by rw [List.size_toArray]; lia)) ⟨e, ?_⟩
  refine ⟨y, _, I.lset (its' := its.dropLast) hH e ?_ r.dropLast ?_, ru, q⟩
  · show its.toArray.eraseIdxIfInBounds (its.toArray.size - 1) = its.dropLast.toArray
    rw [List.size_toArray, List.eraseIdxIfInBounds_toArray, erase_last]
  · rw [List.length_dropLast]
    lia

noncomputable def rPopAt : V → List V → Hp → VK → Prop := fun x vs H Q => Ex5 fun l xs i k y => x = .ref l ∧ vs = [.int i] ∧ H l = some (.lst xs) ∧ -(2 ^ 63) ≤ i ∧ i < 2 ^ 63 ∧ seqIndex? i xs.length = some k ∧ xs[k]? = some y ∧ Q y (upd H l (.lst (xs.eraseIdx k)))
theorem mt_popAt : MtM X "list.pop" rPopAt := by
  intro pins s σ H x vs v us Q I rx rv h
  obtain ⟨l, xs, i, k, y, rfl, rfl, hH, h1, h2, hk, hy, q⟩ := h
  cases rx
  obtain ⟨u, rfl, ru⟩ := rv.one
  obtain ⟨t, rfl⟩ := ru
  obtain ⟨z, its, n, r, hl, e⟩ := I.lstM hH
  obtain ⟨w, hw, rw'⟩ := r.get hy
  refine call_meets F.slot_list_pop ⟨_, e, rfl⟩ F.entry_list_pop (F.args_list_pop_2 _ _)
    (MeetsSeq.list_pop_at l its.toArray n i t k w (fitsIndex_both h1 h2) (by rw [List.size_toArray, ← hl]; exact hk) (by rw [← Array.getElem?_toList]; exact hw) (by rw [List.size_toArray]; lia)) ⟨e, ?_⟩
  refine ⟨y, _, I.lset (its' := its.eraseIdx k) hH e ?_ (r.eraseIdx k) ?_, rw', q⟩
  · show its.toArray.eraseIdxIfInBounds k = (its.eraseIdx k).toArray
    rw [List.eraseIdxIfInBounds_toArray]
  · have := len_erase xs k
    lia



/-! ### list + list, list += list, list * int -/
noncomputable def rCat : R2 := fun x y H Q => Ex4 fun l b xs zs => x = .ref l ∧ y = .ref b ∧ H l = some (.lst xs) ∧ H b = some (.lst zs) ∧ xs.length + zs.length ≤ sizeLine ∧ ∀ p, H p = none → Q (.ref p) (upd H p (.lst (xs ++ zs)))
theorem op_cat : OpR X (binaryOp .Add) rCat := by
  intro pins s σ H x y v u Q I rx ry h
  obtain ⟨l, b, xs, zs, rfl, rfl, hH, hB, hz, q⟩ := h
  cases rx
  cases ry
  obtain ⟨z, its, n, r, hl, e⟩ := I.lstM hH
  obtain ⟨z2, its2, n2, r2, hl2, e2⟩ := I.lstM hB
  refine PySem.P.add_list e e2 ?_ (by rw [List.size_toArray, List.size_toArray]; lia)
  have ea : its.toArray ++ its2.toArray = (its ++ its2).toArray := by simp
  rw [ea]
  exact ⟨.ref _, _, I.lnew (t' := s.toks) (r.append r2) (by rw [List.length_append]; lia), rfl, q _ I.fresh⟩
/-- a list times an int (a negative one is nothing) -/
noncomputable def rRep : R2 := fun x y H Q => Ex3 fun l k xs => x = .ref l ∧ y = .int k ∧ H l = some (.lst xs) ∧ -(2 ^ 63) ≤ k ∧ k < 2 ^ 63 ∧ xs.length * k.toNat ≤ sizeLine ∧
  ∀ p, H p = none → Q (.ref p) (upd H p (.lst (List.replicate k.toNat xs).flatten))
theorem len_rep {α : Type} (xs : List α) (k : Nat) : (List.replicate k xs).flatten.length = k * xs.length := by
  induction k with
  | zero => simp
  | succ k ih => rw [List.replicate_succ, List.flatten_cons, List.length_append, ih, Nat.succ_mul, Nat.add_comm]
theorem op_rep : OpR X (binaryOp .Mult) rRep := by
  intro pins s σ H x y v u Q I rx ry h
  obtain ⟨l, k, xs, rfl, rfl, hH, h1, h2, hz, q⟩ := h
  cases rx
  obtain ⟨t, rfl⟩ := ry
  obtain ⟨z, its, n, r, hl, e⟩ := I.lstM hH
  have hlen : its.toArray.size * k.toNat ≤ sizeLine := by rw [List.size_toArray, ← hl]; exact hz
  have hcap : ¬ its.toArray.size * k.toNat > (2 ^ 63 - 1) / 8 := by
    have : (sizeLine : Nat) ≤ (2 ^ 63 - 1) / 8 := by decide
    lia
  have hfit : ¬ (!Builtin.List.listFitsIndex k) = true := by
    rw [fitsIndex_both h1 h2]
    exact Bool.false_ne_true
  have hlong : ¬ Builtin.List.listTooLong (its.toArray.size * k.toNat) = true := by
    rw [notLongL hlen]
    exact Bool.false_ne_true
  have hnew : List.foldl (fun x1 x2 => x1 ++ x2) #[] (List.replicate (if its.toArray.isEmpty = true then 0 else k.toNat) its.toArray) = (List.replicate k.toNat its).flatten.toArray := by
    have f0 : ∀ m : Nat, List.foldl (fun x1 x2 => x1 ++ x2) #[] (List.replicate m its.toArray) = (List.replicate m its).flatten.toArray := fun m => by
      have := foldl_rep its m []
      rw [List.nil_append] at this
      exact this
    rw [f0]
    cases its with
    | nil => simp
    | cons a r' => rw [if_neg (by simp)]
  refine wpAny_binaryOp_repeat_ref (T := "list") (U := "int") (by decide) ⟨_, e, rfl⟩ (fun s' => typeIs_int s' k t) noFill_list_mul F.fills_int_mul F.slot_int_rmul repeat_list F.slot_int_index.lookup
    (call_meets F.slot_int_rmul (typeIs_int s k t) F.entry_int_rmul (F.args_int_rmul_2 _ _) (int___rmul___int_list k t l its.toArray n)
      ⟨e, rfl, ⟨_, e, rfl⟩, call_meets F.slot_list_mul ⟨_, e, rfl⟩ F.entry_list_mul (F.args_list_mul_2 _ _) (AutoListH.list___mul___list_int_3 l its.toArray n k t hfit hcap hlong) ⟨e, ?_⟩⟩)
  rw [hnew]
  exact ⟨.ref _, _, I.lnew (t' := s.toks) (r.rep k.toNat) (by rw [len_rep, Nat.mul_comm]; exact hz), rfl, q _ I.fresh⟩

/-! ### del xs[i] -/
end

/-! ### xs[a:b] = ys -/

end L2

namespace Att
open PySem PySem.W PySem.Calls PyProof.Rows

/-! ### the script -/
theorem ints_of_wellAll {P : Params} {h : Heap} : ∀ (ns : List Int) (vs : List Value), WellAll P h vs (ns.map WData.int) → IntsAre vs ns := by
  intro ns
  induction ns with
  | nil =>
    intro vs w
    rw [List.map_nil] at w
    cases w
    exact .nil
  | cons n ns ih =>
    intro vs w
    rw [List.map_cons] at w
    cases w with
    | cons a b =>
      cases a
      exact .cons _ _ (ih _ b)

theorem script_of {l : OpenLaw} {n : Nat} (hn : l.most = some n) {P : Params} {h : Heap} {args : List WData} {vals : List Value}
    (hpre : l.row.toRowW.claim.pre args = true) (hwl : WellAll P h vals args) :
    Ex3 fun a vs ns => vals = [Value.ref a] ∧ args = [WData.list (ns.map WData.int)] ∧ h.get? a = some { cls := .type "list", data := .seq vs.toArray } ∧ IntsAre vs ns ∧ ns.length ≤ n := by
  have hsh : WShape.hasAll [] args [.list .int] = true := (pre_splitW hpre).1
  have hc : l.pre.holds [] { args := args } = true := (pre_splitW hpre).2
  obtain ⟨d, r, rfl, h1, h2⟩ := hasAllW_cons hsh
  obtain rfl := hasAllW_nil h2
  obtain ⟨xs, rfl, h3⟩ := hasW_list h1
  obtain ⟨ns, rfl⟩ := items_int h3
  have hlen : ns.length ≤ n := by
    unfold OpenLaw.pre at hc
    have h4 : (WTm.not (.lt (.lit (.int (n : Int))) (.len (.arg 0)))).holds [] { args := [.list (ns.map .int)] } = true := by
      have h4 := (holds_andW hc).1
      rw [hn] at h4
      exact h4
    have h5 := condW_of h4 (w_not (w_lt w_lit (w_len_list (w_arg rfl))))
    rw [List.length_map] at h5
    refine Nat.le_of_not_lt fun q => ?_
    have q' : (n : Int) < ((ns.length : Nat) : Int) := by lia
    first
      | (rw [decide_eq_true q'] at h5; exact absurd h5 (by decide))
      | (simp at h5; lia)
  cases hwl with
  | cons w1 w2 =>
    cases w2
    cases w1 with
    | list ho hall => exact ⟨_, _, ns, rfl, rfl, ho, ints_of_wellAll ns _ hall, hlen⟩

theorem post_true (l : OpenLaw) (args : List WData) : l.row.toRowW.claim.post args (.bool true) args = true :=
  postW_of (r := l.row.toRowW) (X := (true == true))
    (show WShape.has [] (.bool true) .bool = true by first | rfl | decide | simp [WShape.has, WShape.arms, WShape.armsAll])
    (show (WTm.eq .res (.lit (.bool true))).value [] { args := args, res := some (.bool true), after := args } = some (.bool (true == true)) from w_eq_bool (w_res rfl) w_lit) rfl

/-! ### the attachment: holds_open's last premise (the goal 'hc' behind k_head) from a wpAny of the law's body -/

/-- the same from a codeAny of the CALL (for a layer whose function contracts speak of calls) -/
theorem attach_call {l : OpenLaw} {n : Nat} {q : Program} {loose : List Str} {XP : (Str → Option Value) → Heap → Prop} {YP : World → Heap → Prop} {d : DefRec}
    (hn : l.most = some n) (hdf : d.params.defaults = [])
    (call : ∀ (w : World) (s₀ s₁ : Shared) (mg mb : Str → Option Value) (fa : Addr) (o : Obj) (pm cd doc : Value) (a : Addr) (vs : List Value) (ns : List Int),
      Ground q loose [] XP w s₀ mg mb s₁.heap → YP w s₁.heap →
      s₁.heap.get? fa = some o → o.data = .func (docDef d.name d.params d.body d.scope pm cd doc) → s₁.heap.CodeRec cd d.name → mg d.name = some (.ref fa) →
      s₁.heap.get? a = some { cls := .type "list", data := .seq vs.toArray } → IntsAre vs ns → ns.length ≤ n → s₁.gens = #[] →
      codeAny (model l.prog w) callerA (.call (.ref fa) ⟨[.ref a], []⟩) (fun r s' => r = .ok (.ret (.bool true)) ∧ OldK s₁.heap s'.heap ∧ s'.os = s₁.os ∧ AllBare s'.gens) s₁) :
    WalkO q loose XP YP l.row.toRowW d [] (fun f vs => PySem.call f vs) := by
  intro w s₀ s₁ mg mb G Y fa o pm cd doc dV kV ho hd hcd hD hmg hg args vals as hpre hlay hrd hwl hlo
  obtain rfl : dV = .none := Dflts.none hD hdf
  obtain rfl : kV = .none := Dflts.noKw hD
  obtain ⟨a, vs, ns, rfl, rfl, hobj, hints, hlen⟩ := script_of hn hpre hwl
  refine enter_call (codeAny_mono (call w s₀ s₁ mg mb fa o pm cd doc a vs ns G Y ho (fd_plain hd) hcd hmg hobj hints hlen hg) fun r s' hq => ?_)
  obtain ⟨rfl, h2, h3, h4⟩ := hq
  exact ⟨.inl ⟨.bool true, .bool true, [], rfl, fun _ => rfl, .bool true, post_true l _, fun _ => ⟨List.Pairwise.nil, fun _ hm => (nomatch hm)⟩⟩, h2, h3, h4⟩


/-! ### rules over ANY heap (no ledger) from facts about the written part K: the library's own take a ledger (News) for what they write -/
section
variable {prog : Program} {w : World} {A : Around} {E : Value → Shared → Prop} {s : Shared} {K : Frag}





/-! the whole heap as the ledger: makes every rule that writes through a ledger a rule over any heap -/

end
end Att

namespace L2
open PySem PySem.Spec PyProof.Rows

theorem vals_ints : ∀ {vs : List Value} {ns : List Int}, IntsAre vs ns → Vals (ns.map V.int) vs
  | _, _, .nil => .nil
  | _, _, .cons n t h => .cons ⟨t, rfl⟩ (vals_ints h)

/-- nothing is tracked but the script, known to the object (or it is an object of the module) -/
noncomputable def Only (H : Hp) : Prop := ∀ b, H b = none ∨ Ex2 fun o xs => H b = some (.frz o (.lst xs))

/-- THE HEAD: the law's promise, at the heap behind the top. F, the promise of the law's def, may use that base is part of the heap (so K.In base, base.Ns mainGlobals mg stand in Mod) -/
theorem law_call {P : Program} {w : World} {K : PySem.W.Frag} {mg mb : Str → Option Value} {CX : CXT} {k : Nat} {fa a : Addr} {fd : FuncData} {x : Str} {sp : Sp} {s₁ : Shared} {vs : List Value} {ns : List Int}
    (KX : K.In s₁.heap) (hns : s₁.heap.Ns mainGlobals mg) (hb : s₁.heap.Ns builtinsNs mb) (hbb : ∀ x : Str, x ≠ "__name__" → mb x = bootBuiltins x) (hlim : s₁.heap.NoLimit) (hg : s₁.gens = #[])
    (ha : s₁.heap.get? a = some { cls := .type "list", data := .seq vs.toArray }) (hi : IntsAre vs ns) (hl : ns.length ≤ sizeLine) (hr : Room k callerA)
    (F : ∀ base : Heap, K.In base → base.Ns mainGlobals mg → FnOk P w K mg base CX k fa fd [x] sp) (hbind : ∀ (s : Shared) (u : Value), BindsTo s fd ⟨[u], []⟩ [(x, u)])
    (hsp : ∀ H : Hp, Only H → SqL K H a (ns.map V.int) → sp [.ref a] H (fun v _ => v = .bl true) fun _ _ _ => False)
    (hCX : ∀ H e s', CX [] H s₁ (fun _ _ _ => False) e s' → False) :
    codeAny (model P w) callerA (.call (.ref fa) ⟨[.ref a], []⟩) (fun r s' => r = .ok (.ret (.bool true)) ∧ OldK s₁.heap s'.heap ∧ s'.os = s₁.os ∧ AllBare s'.gens) s₁ := by
  have rv := vals_ints hi
  have lenV := hi.length
  -- from an abstract heap in which nothing but the script may be tracked
  have core : ∀ H : Hp, Only H → SqL K H a (ns.map V.int) → HOk P w H s₁.heap → (∀ b, H b ≠ none → b = a) → (H a ≠ none → K.lookup a = none) →
      codeAny (model P w) callerA (.call (.ref fa) ⟨[.ref a], []⟩) (fun r s' => r = .ok (.ret (.bool true)) ∧ OldK s₁.heap s'.heap ∧ s'.os = s₁.os ∧ AllBare s'.gens) s₁ := by
    intro H hO hS hok hA hK
    have base_of : ∀ {b : Addr} {o : Obj}, s₁.heap.get? b = some o → H b = none → (hidT s₁.heap H).get? b = some o := fun e n => hidT_get e n
    have noA : ∀ {b : Addr} {o : Obj} {es : Array DictEntry} {ep : Nat}, s₁.heap.get? b = some o → o.data = .dict es ep → H b = none := fun {b o es ep} e d => by
      cases q : H b with
      | none => rfl
      | some u =>
        have e' : b = a := hA b (by rw [q]; simp)
        subst e'
        rw [ha] at e; cases e
        have d' : Data.seq vs.toArray _ = Data.dict es ep := d
        cases d'
    have nsK : ∀ {b : Addr} {m : Str → Option Value}, s₁.heap.Ns b m → (hidT s₁.heap H).Ns b m := fun {b m} ⟨o, es, ep, e, d, r⟩ => ⟨o, es, ep, base_of e (noA e d), d, r⟩
    have hKb : K.In (hidT s₁.heap H) := fun b o e => base_of (KX b o e) (by
      cases q : H b with
      | none => rfl
      | some u =>
        have e' : b = a := hA b (by rw [q]; simp)
        subst e'
        rw [hK (by rw [q]; simp)] at e; cases e)
    have hM : Mod K mg (hidT s₁.heap H) := ⟨hKb, nsK hns, ⟨mb, nsK hb, hbb⟩, let ⟨mc, h1, h2⟩ := hlim; ⟨mc, nsK h1, h2⟩⟩
    have e0 : Env0 P w K mg (hidT s₁.heap H) callerA [] s₁ H := ⟨rfl, hM, fun b o e => of_hidT e, Nat.le_of_eq (hidT_size _ _), trivial, fun b hb => absurd (show b ∈ ([] : List Addr) from hb) (by simp), hok, .of_eq hg⟩
    refine codeAny_mono ((F _ hKb (nsK hns)).run callerA [] s₁ H ⟨[.ref a], []⟩ [.ref a] [.ref a] _ _ hr e0 (hbind s₁ (.ref a)) (.cons rfl .nil) (hsp H hO hS)) fun r s' h => ?_
    cases r with
    | error e => exact (hCX H e s' h).elim
    | ok fl =>
      cases fl with
      | next => exact False.elim h
      | brk => exact False.elim h
      | cont => exact False.elim h
      | ret u =>
        obtain ⟨v, H', os, bare, un, hok', r', q⟩ := h
        have q' : v = .bl true := q
        subst q'
        obtain rfl : u = Value.bool true := r'
        refine ⟨rfl, OldK.of_keep fun b o e => ?_, os, bare⟩
        cases q : H b with
        | none => exact un.keep b o e q (by intro z; exact absurd (show b ∈ ([] : List Addr) from z) (by simp)) (by simp)
        | some u =>
          rcases hO b with z | ⟨ob, xs, z⟩
          · rw [q] at z; cases z
          · have z2 := un.frzs b ob _ z
            obtain ⟨e1, _⟩ := hok b _ z
            obtain ⟨e2, _⟩ := hok' b _ z2
            rw [e] at e1; cases e1
            exact e2
  cases hk : K.lookup a with
  | some o =>
    -- the script is one of the module's own objects
    have e := KX a o hk
    rw [ha] at e
    cases e
    refine core (fun _ => none) (fun _ => .inl rfl) (.inr ⟨_, vs.toArray, _, hk, rfl, rfl, rfl, by rw [List.size_toArray, lenV]; exact hl, by simpa using rv⟩) (fun b u z => by have z' : (none : Option HO) = some u := z; cases z') (fun b z => absurd rfl z) fun z => absurd rfl z
  | none =>
    refine core (fun b => if b = a then some (.frz { cls := .type "list", data := .seq vs.toArray } (.lst (ns.map V.int))) else none) (fun b => ?_) (.inl (.inr ⟨{ cls := .type "list", data := .seq vs.toArray }, if_pos rfl⟩)) (fun b u z => ?_) (fun b z => ?_) fun _ => hk
    · by_cases hb : b = a
      · exact .inr ⟨_, _, if_pos hb⟩
      · exact .inl (if_neg hb)
    · by_cases hb : b = a
      · have z' := (if_pos hb).symm.trans z
        cases z'
        subst hb
        exact ⟨ha, by rw [List.length_map]; exact hl, vs, _, rv, ha⟩
      · have z' := (if_neg hb).symm.trans z
        cases z'
    · by_cases hb : b = a
      · exact hb
      · exact absurd (if_neg hb) z
end L2

namespace L2
open PySem PySem.Spec PyProof.Rows

noncomputable abbrev KOf {K : PySem.W.Frag} {h : Heap} (_ : K.In h) : PySem.W.Frag := K

/-- the goal that k_head leaves (case hc), from the law's promise. F gives the function object fd (K's own) once, then the promise over every base -/
theorem walk_of {l : PySem.W.OpenLaw} {n k : Nat} {q : Program} {loose : List Str} {XP : (Str → Option Value) → Heap → Prop} {YP : World → Heap → Prop} {d : DefRec} {K : Params → PySem.W.Frag} {CX : World → CXT} {sp : World → Sp} {x : Str}
    (hn : l.most = some n) (hn2 : n ≤ sizeLine) (hdf : d.params.defaults = []) (hr : Room k callerA)
    (hY : ∀ (w : World) (h : Heap), YP w h → (K w.params).In h)
    (F : ∀ (w : World) (mg : Str → Option Value) (fa : Addr) (h : Heap), (K w.params).In h → h.Ns mainGlobals mg → mg d.name = some (.ref fa) →
      ∃ fd : FuncData, (∀ (s : Shared) (u : Value), BindsTo s fd ⟨[u], []⟩ [(x, u)]) ∧
        ∀ base : Heap, (K w.params).In base → base.Ns mainGlobals mg → FnOk l.prog w (K w.params) mg base (CX w) k fa fd [x] (sp w))
    (hsp : ∀ (w : World) (H : Hp) (a : Addr) (ns : List Int), ns.length ≤ n → Only H → SqL (K w.params) H a (ns.map V.int) → sp w [.ref a] H (fun v _ => v = .bl true) fun _ _ _ => False)
    (hCX : ∀ (w : World) (H : Hp) (s : Shared) (e : Value) (s' : Shared), CX w [] H s (fun _ _ _ => False) e s' → False) :
    PySem.W.WalkO q loose XP YP l.row.toRowW d [] (fun f vs => PySem.call f vs) := by
  refine Att.attach_call hn hdf fun w s₀ s₁ mg mb fa o pm cd doc a vs ns G Y ho hd hcd hmg hobj hints hlen hg => ?_
  have KX := hY w _ Y
  obtain ⟨fd, hb, hF⟩ := F w mg fa _ KX G.T.g hmg
  exact law_call KX G.T.g G.T.b G.T.builtins G.T.nolimit hg hobj hints (Nat.le_trans hlen hn2) hr hF hb (fun H hO hS => hsp w H a ns hlen hO hS) fun H e s' => hCX w H s₁ e s'
end L2

/- THE LAST THEOREM (shape; LID, My.* are yours):
   My.Adr: a structure of the addresses that your layer names (classes, functions); My.Txt K t: a structure (Prop) of the equations over K;
   My.txt_mk : {K} {implicit addresses ..} (e1 : nsIn K mainGlobals "law" = some (some (.ref f))) (e2 : K.lookup f = some ⟨oc, od, .func (fnOf "law" "law" params body scope dV kV doc pm an cdv ct), sl⟩) (e3 : codeIn K cdv "law" = true) .. : ∃ t, My.Txt K t

set_option maxRecDepth 100000 in
set_option maxHeartbeats 0 in
theorem PySem.Challenge.cw_LID_holds : PySem.Challenge.rw_LID.Holds := by
  w_on; o_law; k_head; (case hw => w_witness2)
  k_fill
  refine L2.walk_of (l := PySem.Challenge.rw_LID) (n := 63) (k := 40) (x := "script") (CX := fun w => ..) (sp := fun _ => My.sp_law) rfl (by decide) rfl ⟨rfl, by decide, by decide⟩ (fun w h Y => PySem.W.kIn_of Y) ?F ?S ?C
  case F =>
    intro w mg fa h KX G hmg
    have T : ∃ t, My.Txt (L2.KOf KX) t := by
      dsimp only [L2.KOf]                          -- K must stand as «<heap const> w.params» for k_is
      refine' My.txt_mk ?e1 ?e2 ?e3 ..
      (case e1 => PySem.W.k_is)                    -- in the order: a name -> its address -> its object -> its parts
      (case e2 => PySem.W.k_is)
      ..
    obtain ⟨t, T⟩ := T
    have e0 := hmg.symm.trans (PySem.W.mg_of KX G T.law)
    cases e0                                       -- fa is the law's own address
    exact ⟨_, fun s u => .of_eq rfl, fun base kb nb => My.law_fn T kb nb⟩     -- if «.of_eq rfl» comes too early: refine' ⟨_, ?b, fun base kb nb => My.law_fn T kb nb⟩; exact fun s u => .of_eq rfl
  case S => exact fun w H a ns hl hO hS => ..
  case C => exact ..
(the tactic k_is has no namespace: write k_is) -/

/-! SHORT WORDS over the layer: a def of the text, its body, what a loop and a test want. -/
namespace L2
open PySem PySem.Spec PyProof.Rows

/-! ### the text by places -/
noncomputable def defArgs (s : Stmt) : Arguments := match s with
  | .FunctionDef _ a _ _ _ _ _ _ _ _ => a
  | _ => { posonlyargs := [], args := [], vararg := none, kwonlyargs := [], kw_defaults := [], kwarg := none, defaults := [] }
noncomputable def defBody (s : Stmt) : List Stmt := match s with
  | .FunctionDef _ _ b _ _ _ _ _ _ _ => b
  | _ => []
noncomputable def defScope (s : Stmt) : Scope := match s with
  | .FunctionDef _ _ _ _ _ _ sc _ _ _ => sc
  | _ => { kind := .function, names := [], isGenerator := false, isCoroutine := false }

/-! ### no exception leaves a def -/
noncomputable abbrev CX0 : CXT := fun _ _ _ _ _ _ => False
noncomputable abbrev E0 : XK := fun _ _ _ => False
theorem pass0 {X : Cx} : Passes CX0 X E0 := fun _ _ _ _ _ _ _ h => h.elim

/-! ### a def (or method) of the text as it stands behind the top -/
structure Fun (K : PySem.W.Frag) (x qual : Str) (st : Stmt) (f : Addr) (fd : FuncData) : Prop where
  ex : Ex9 fun (oc : Value) (od : Option Addr) (kV doc pm : Value) (an : Option Addr) (cdv ct : Value) (osl : Array (Option Value)) =>
    fd = PySem.W.fnOf x qual (defArgs st) (defBody st) (defScope st) .none kV doc pm an cdv ct ∧ K.lookup f = some ⟨oc, od, .func fd, osl⟩ ∧ PySem.W.codeIn K cdv qual = true
  kp : PySem.W.keepIn K (.ref f) = true
section
variable {P : Program} {w : World} {K : PySem.W.Frag} {mg : Str → Option Value} {base : Heap}
/-- THE RULE for a def: its body as a term of rules, and the reading of that term -/
theorem Fun.ok {x qual : Str} {st : Stmt} {f : Addr} {fd : FuncData} {N ps : List Str} {k : Nat} {sp : Sp} (F : Fun K x qual st f fd) (S : FnScope N ps (defScope st)) (len : ∀ vs H Q E, sp vs H Q E → vs.length = ps.length)
    (hbody : ∀ (cdv : Value) (A : Around) (outer : List Env) (s : Shared) (H : Hp) (vs : List V) (Q : VK) (E : XK), Room k (A.deeper (envOfC qual (defScope st) s.heap.objs.size f cdv)) → sp vs H Q E →
      ∃ t, PSs (cxOf CX0 P w K mg base N qual (defScope st) f cdv A outer s H E).nox (defBody st) t ∧ t { nx := fun _ H' => Q .non H', rt := Q } (start N vs) H) : FnOk P w K mg base CX0 (k + 1) f fd ps sp := by
  obtain ⟨oc, od, kV, doc, pm, an, cdv, ct, osl, rfl, lk, hcd⟩ := F.ex
  refine fn_of lk hcd S len fun A outer s H vs Q E hr hsp => ?_
  obtain ⟨t, h, q⟩ := hbody cdv A outer s H vs Q E hr hsp
  exact ⟨t, h.nox, q⟩
/-- how its arguments bind (no defaults): h is «fun _ _ _ _ _ _ us hl => match us, hl with | [_, _], _ => rfl», one _ a parameter -/
theorem Fun.binds {x qual : Str} {st : Stmt} {f : Addr} {fd : FuncData} {ps : List Str} (F : Fun K x qual st f fd)
    (h : ∀ (kV doc pm : Value) (an : Option Addr) (cdv ct : Value) (us : List Value), us.length = ps.length → bindArgs (PySem.W.fnOf x qual (defArgs st) (defBody st) (defScope st) .none kV doc pm an cdv ct) ⟨us, []⟩ = pure (ps.zip us)) : Binds K fd ps [] := by
  obtain ⟨oc, od, kV, doc, pm, an, cdv, ct, osl, rfl, lk, hcd⟩ := F.ex
  exact .all (h kV doc pm an cdv ct)
theorem fun_mk {x qual : Str} {st : Stmt} {f : Addr} {oc : Value} {od an : Option Addr} {osl : Array (Option Value)} {kV doc pm cdv ct : Value} (l : K.lookup f = some ⟨oc, od, .func (PySem.W.fnOf x qual (defArgs st) (defBody st) (defScope st) .none kV doc pm an cdv ct), osl⟩)
    (c : PySem.W.codeIn K cdv qual = true) (k : PySem.W.keepIn K (.ref f) = true) : Fun K x qual st f (PySem.W.fnOf x qual (defArgs st) (defBody st) (defScope st) .none kV doc pm an cdv ct) := ⟨⟨oc, od, kV, doc, pm, an, cdv, ct, osl, rfl, l, c⟩, k⟩
end
theorem hu_of {A : Around} {k : Nat} (hr : Room k A) : A.units + 1 < cLine := Nat.lt_of_le_of_lt (Nat.add_le_add_left (by decide : 1 ≤ 64) _) hr.units
theorem small1000 {n : Nat} (h : n ≤ 1000) : n < sizeLine := Nat.lt_of_le_of_lt h (by decide)

/-! ### expressions in short: the name that stands in the i-th slot -/
section
variable {X : Cx}
theorem pv (i : Nat) {x : Str} {pos : Pos} (hN : X.N[i]? = some x := by rfl) (hv : Vis X.env.scope x := by first | exact Or.inl rfl | exact Or.inr (Or.inl rfl) | exact Or.inr (Or.inr rfl)) (hd : (x == ("__debug__" : Str)) = false := by decide)
    (hcd : (x == ("__classdict__" : Str)) = false := by decide) : PE X (.Name x pos) (tVar i) := pe_var hN hv hd hcd
end

/-! ### tests -/
theorem ite2 {c A B : Prop} [Decidable c] (h1 : c → A) (h2 : ¬ c → B) : if c then A else B := by
  by_cases h : c
  · rw [if_pos h]
    exact h1 h
  · rw [if_neg h]
    exact h2 h

/-! ### heaps -/
/-- all that was tracked is as it was -/
noncomputable def Same (H H' : Hp) : Prop := ∀ b o, H b = some o → H' b = some o
theorem Same.refl (H : Hp) : Same H H := fun _ _ h => h
theorem Same.trans {H H1 H2 : Hp} (a : Same H H1) (b : Same H1 H2) : Same H H2 := fun c o h => b c o (a c o h)
theorem Same.free {H H' : Hp} (e : Same H H') {l : Addr} (h : H' l = Option.none) : H l = Option.none := by
  cases q : H l with
  | none => rfl
  | some o =>
    rw [e l o q] at h
    cases h
theorem Same.seq {K : PySem.W.Frag} {H H' : Hp} {a : Addr} {xs : List V} (e : Same H H') (h : SqL K H a xs) : SqL K H' a xs := by
  rcases h with (h | ⟨o, h⟩) | h
  · exact .inl (.inl (e _ _ h))
  · exact .inl (.inr ⟨o, e _ _ h⟩)
  · exact .inr h

end L2

end
section
set_option Elab.async false
set_option linter.all false
set_option maxRecDepth 100000
namespace L2
open PySem PySem.Spec PyProof.Rows

/-! ### lists of pairs as tables -/
section
variable {κ : Type} [DecidableEq κ]
noncomputable def valV (kvs : List (κ × V)) (k : κ) : Option V := (kvs.find? fun kv => decide (kv.1 = k)).map (·.2)
/-- in its place, or at the end -/
noncomputable def putK (kvs : List (κ × V)) (k : κ) (v : V) : List (κ × V) :=
  if (kvs.any fun kv => decide (kv.1 = k)) = true then kvs.map (fun kv => if kv.1 = k then (kv.1, v) else kv) else kvs ++ [(k, v)]

theorem valV_pos {p : κ × V} {r : List (κ × V)} {k : κ} (e : p.1 = k) : valV (p :: r) k = some p.2 := by simp [valV, List.find?_cons, e]
theorem valV_neg {p : κ × V} {r : List (κ × V)} {k : κ} (e : ¬ p.1 = k) : valV (p :: r) k = valV r k := by simp [valV, List.find?_cons, e]
theorem length_putK (kvs : List (κ × V)) (k : κ) (v : V) : (putK kvs k v).length ≤ kvs.length + 1 := by
  unfold putK
  split
  · rw [List.length_map]; lia
  · rw [List.length_append, List.length_cons, List.length_nil]; lia


/-- raw tables of the same keys -/
theorem KV.val {kvs : List (κ × V)} {vs : List (κ × Value)} (r : KV kvs vs) (k : κ) : RelO (valV kvs k) (valueAt vs k) := by
  unfold KV at r
  induction r with
  | nil => exact True.intro
  | @cons p q ps qs h t ih =>
    obtain ⟨h1, h2⟩ := h
    by_cases e : p.1 = k
    · have e' : q.1 = k := h1.symm.trans e
      have b : valueAt (q :: qs) k = some q.2 := by simp [valueAt, List.find?_cons, e']
      rw [valV_pos e, b]; exact h2
    · have e' : ¬ q.1 = k := fun z => e (h1.trans z)
      have b : valueAt (q :: qs) k = valueAt qs k := by simp [valueAt, List.find?_cons, e']
      rw [valV_neg e, b]; exact ih
theorem KV.any {kvs : List (κ × V)} {vs : List (κ × Value)} (r : KV kvs vs) (k : κ) : (kvs.any fun kv => decide (kv.1 = k)) = vs.any fun kv => decide (kv.1 = k) := by
  unfold KV at r
  induction r with
  | nil => rfl
  | cons h t ih => rw [List.any_cons, List.any_cons, ih, h.1]
theorem KV.repl {kvs : List (κ × V)} {vs : List (κ × Value)} (r : KV kvs vs) (k : κ) {y : V} {u : Value} (ry : RelV y u) :
    KV (kvs.map fun kv => if kv.1 = k then (kv.1, y) else kv) (vs.map fun kv => if kv.1 = k then (kv.1, u) else kv) := by
  unfold KV at r ⊢
  induction r with
  | nil => exact .nil
  | @cons p q ps qs h t ih =>
    rw [List.map_cons, List.map_cons]
    refine .cons ?_ ih
    obtain ⟨h1, h2⟩ := h
    by_cases e : p.1 = k
    · rw [if_pos e, if_pos (h1.symm.trans e)]; exact ⟨h1, ry⟩
    · rw [if_neg e, if_neg (fun z => e (h1.trans z))]; exact ⟨h1, h2⟩
theorem KV.put {kvs : List (κ × V)} {vs : List (κ × Value)} (r : KV kvs vs) (k : κ) {y : V} {u : Value} (ry : RelV y u) : KV (putK kvs k y) (stored vs k u) := by
  unfold putK stored
  rw [r.any k]
  by_cases e : (vs.any fun kv => decide (kv.1 = k)) = true
  · rw [if_pos e, if_pos e]; exact r.repl k ry
  · rw [if_neg e, if_neg e]; exact Paired.snoc r ⟨rfl, ry⟩
theorem KV.keys {kvs : List (κ × V)} {vs : List (κ × Value)} (r : KV kvs vs) : kvs.map (·.1) = vs.map (·.1) := by
  unfold KV at r
  induction r with
  | nil => rfl
  | cons h t ih => rw [List.map_cons, List.map_cons, ih, h.1]
end


/-! ### a tracked dict, its keys ints and texts or tuples of these -/
theorem kV_is {P : Program} {w : World} {k : Key} {u : Value} (r : RelV (kV k) u) : (mixKind P w).is k u = true := by
  cases k with
  | inl i => obtain ⟨t, e⟩ := (show ∃ t, u = Value.int i t from r); subst e; exact mixKind_int P w i t
  | inr x => obtain ⟨t, e⟩ := (show ∃ t, u = Value.str x t from r); subst e; exact mixKind_str P w x t
theorem items_are {P : Program} {w : World} : ∀ {ks : List Key} {us : List Value}, Vals (ks.map kV) us → ItemsAre (mixKind P w) ks us
  | [], _, r => by rw [List.map_nil] at r; cases r; exact .nil
  | k :: ks, _, r => by
    rw [List.map_cons] at r
    cases r with
    | cons h t => exact .cons (kV_is h) (items_are t)

/-- raw entries of a dict with tuple keys -/
noncomputable abbrev KT (H : Hp) : List (List Key × V) → List (List Key × Addr × Value) → Prop := Paired fun p q => p.1 = q.1 ∧ H q.2.1 = some (.tup (p.1.map kV)) ∧ RelV p.2 q.2.2
theorem KT.val {H : Hp} {kvs : List (List Key × V)} {xs : List (List Key × Addr × Value)} (r : KT H kvs xs) (k : List Key) : RelO (valV kvs k) ((atKey xs k).map (·.2)) := by
  induction r with
  | nil => exact True.intro
  | @cons p q ps qs h t ih =>
    obtain ⟨h1, _, h2⟩ := h
    by_cases e : p.1 = k
    · have e' : q.1 = k := h1.symm.trans e
      have b : atKey (q :: qs) k = some q.2 := by simp [atKey, List.find?_cons, e']
      rw [valV_pos e, b]; exact h2
    · have e' : ¬ q.1 = k := fun z => e (h1.trans z)
      have b : atKey (q :: qs) k = atKey qs k := by simp [atKey, List.find?_cons, e']
      rw [valV_neg e, b]; exact ih

section
variable {P : Program} {w : World} {H : Hp} {h : Heap} {a : Addr}
theorem rd_of {u : HO} (ok : HOk P w H h) (e : Rd H a u) : ObjOk P w H h a u := e.ok ok
theorem dk_rd {kvs : List (Key × V)} (ok : HOk P w H h) (e : Rd H a (.dK kvs)) : kvs.length ≤ sizeLine ∧ (a == sysModules) = false ∧ ∃ vs, KV kvs vs ∧ h.DictOf (mixKind P w) a vs :=
  show ObjOk P w H h a (.dK kvs) from rd_of ok e
theorem dk_of {kvs : List (Key × V)} (ok : HOk P w H h) (e : H a = some (.dK kvs)) : kvs.length ≤ sizeLine ∧ (a == sysModules) = false ∧ ∃ vs, KV kvs vs ∧ h.DictOf (mixKind P w) a vs := dk_rd ok (.inl e)
/-- a tracked tuple of ints and texts is a key -/
theorem key_of {ks : List Key} (ok : HOk P w H h) (e : H a = some (.tup (ks.map kV))) : (tupleKind (mixKind P w)).is h ks a := by
  obtain ⟨_, its, r, o, h1, h2, n, h3⟩ := (show ObjOk P w H h a (.tup (ks.map kV)) from ok a _ e)
  exact ⟨o, its.toArray, n, h1, h2, h3, by simpa using items_are r⟩
theorem dt_rd {kvs : List (List Key × V)} (ok : HOk P w H h) (e : Rd H a (.dT kvs)) : kvs.length ≤ sizeLine ∧ (a == sysModules) = false ∧
    ∃ xs, KT H kvs xs ∧ h.DictOfH (tupleKind (mixKind P w)) a xs := by
  obtain ⟨z, y, xs, r, o, es, ep, h1, h2, h3, h4, h5⟩ := (show ObjOk P w H h a (.dT kvs) from rd_of ok e)
  refine ⟨z, y, xs, r, o, es, ep, h1, h2, h3, h4, fun x hx => ?_, h5⟩
  have all : ∀ {l : List (List Key × V)} {m : List (List Key × Addr × Value)}, KT H l m → ∀ x ∈ m, (tupleKind (mixKind P w)).is h x.1 x.2.1 := by
    intro l m q
    induction q with
    | nil => intro x hx; exact nomatch hx
    | @cons p q ps qs hq t ih =>
      intro x hx
      rcases List.mem_cons.mp hx with e | hx
      · subst e
        exact key_of ok (by rw [← hq.1]; exact hq.2.1)
      · exact ih x hx
  exact all r x hx
end

/-- what the dict at a holds at the key y -/
noncomputable def DGet (H : Hp) (a : Addr) (y : V) (r : Option V) : Prop :=
  (Ex2 fun kvs k => Rd H a (.dK kvs) ∧ y = kV k ∧ r = valV kvs k) ∨ Ex3 fun kvs k b => Rd H a (.dT kvs) ∧ y = .ref b ∧ H b = some (.tup (k.map kV)) ∧ r = valV kvs k
theorem DGet.k {H : Hp} {a : Addr} {kvs : List (Key × V)} {k : Key} (e : H a = some (.dK kvs)) : DGet H a (kV k) (valV kvs k) := .inl ⟨kvs, k, .inl e, rfl, rfl⟩


section
variable {X : Cx} {pins : List (Addr × Obj)} {σ : St} {H : Hp} {s : Shared} {a : Addr} {y v : V} {u r : Value} {o : Option V} {A : Around} {E : Value → Shared → Prop}

theorem Inv.big (I : Inv X pins σ H s) : sysModules < s.heap.objs.size := by
  have h : mainGlobals < s.heap.objs.size := (I.mod.glob.keeps I.bk).lt
  exact Nat.lt_trans (by decide) h

/-- d[y], there -/
theorem d_getItem {Q : Value → Shared → Prop} (hu : A.units + 1 < cLine) (I : Inv X pins σ H s) (g : DGet H a y (some v)) (ry : RelV y u) (h : ∀ w' s', Inv X pins σ H s' → RelV v w' → Q w' s') :
    wpAny (model X.prog X.w) A (getItem (.ref a) u) Q E s := by
  rcases g with ⟨kvs, k, e, ey, l⟩ | ⟨kvs, k, b, e, ey, eb, l⟩
  · subst ey
    obtain ⟨z, hd, vs, rel, dd⟩ := dk_rd I.hok e
    obtain ⟨w', hw, rw'⟩ := RelO.some_of (v := v) (o := valueAt vs k) (by rw [l]; exact rel.val k)
    exact wpAny_getItem_of (kV_is ry) dd.mapOf hw (h w' _ (I.tok _) rw')
  · subst ey
    cases (show u = Value.ref b from ry)
    obtain ⟨z, hd, xs, rel, dd⟩ := dt_rd I.hok e
    obtain ⟨w', hw, rw'⟩ := RelO.some_of (v := v) (o := (atKey xs k).map (·.2)) (by rw [l]; exact rel.val k)
    obtain ⟨p, hp, hp2⟩ := Option.map_eq_some_iff.mp hw
    refine wpAny_getItem_heap (tupleKind_room_in1 hu) (key_of I.hok eb) dd hp ?_
    rw [hp2]
    exact h w' _ (I.tok _) rw'
/-- a dict's object is replaced -/
theorem d_write {h' : Heap} {t' : Nat} {ob : HO} (I : Inv X pins σ H s) (mu : Mut (H a)) (hs : Heap.SameBut a s.heap h') (he : ∃ q, h'.get? a = some q) (new : ObjOk X.prog X.w (upd H a ob) h' a ob) :
    Inv X pins σ (upd H a ob) { s with heap := h', toks := t' } :=
  I.write (x := a) (e := a) mu (.inl rfl) (fun b q hb z => (hs.2 b hb).trans z) he new
theorem dk_new {P : Program} {w : World} {H' : Hp} {h' : Heap} {kvs : List (Key × V)} {vs : List (Key × Value)} (z : kvs.length ≤ sizeLine) (hd : (a == sysModules) = false) (rel : KV kvs vs) (dd : h'.DictOf (mixKind P w) a vs) :
    ObjOk P w H' h' a (.dK kvs) := ⟨z, hd, vs, rel, dd⟩
end



/-! ### readings and rules -/
/-- the element of a subscription, not a slice -/
noncomputable def NoSl (i : Expr) : Prop := ∀ ov iv, subscripted i false ov iv = operate [ov, iv] (getItem ov iv)
theorem subD_of {prog : Program} {w : World} {A : Around} {E : Value → Shared → Prop} {s : Shared} {env : Env} {value slice : Expr} {pos : Pos} {T id : String} {Q : Value → Shared → Prop}
    (hl : typeLookup (.type T) "__getitem__" = pure (some (.builtin id))) (hs : NoSl slice)
    (h : wpAny (model prog w) A (eval value env) (fun o s₁ => wpAny (model prog w) A (eval slice env) (fun i s₂ => s₂.TypeIs o T ∧ wpAny (model prog w) A (getItem o i) Q E s₂) E s₁) E s) :
    wpAny (model prog w) A (eval (.Subscript value slice pos) env) Q E s := by
  refine Subscript_ (wpAny_mono h (fun o s₁ h₁ => wpAny_mono h₁ (fun i s₂ h₂ => ?_) fun _ _ x => x) fun _ _ x => x)
  obtain ⟨hT, h₂⟩ := h₂
  unfold subscriptTail
  refine wpAny_bind ?_
  rw [getitemInPython_of_ne hT.not_modules]
  refine wpAny_bind (wpAny_specialOf hT hl ?_)
  have fin : wpAny (model prog w) A (subscripted slice false o i) (fun r s₃ => wpAny (model prog w) A (letTemporaryGo value o r >>= fun _ => pure r) Q E s₃) E s₂ := by
    rw [hs o i]
    exact wpAny_operating (wpAny_mono h₂ (fun r s₃ h₃ => wpAny_bind (wpAny_letTemporaryGo (wpAny_pure h₃))) fun _ _ x => x)
  first
    | exact wpAny_pure (wpAny_bind fin)
    | exact wpAny_bind (wpAny_pure (wpAny_bind fin))
    | exact wpAny_bind fin

theorem dict_typeIs {X : Cx} {pins : List (Addr × Obj)} {σ : St} {H : Hp} {s : Shared} {a : Addr} {y : V} {o : Option V} (I : Inv X pins σ H s) (g : DGet H a y o) : s.TypeIs (.ref a) "dict" := by
  rcases g with ⟨kvs, k, e, _, _⟩ | ⟨kvs, k, b, e, _, _, _⟩
  · obtain ⟨_, _, vs, _, dd⟩ := dk_rd I.hok e
    exact dd.typeIs
  · obtain ⟨_, _, xs, _, dd⟩ := dt_rd I.hok e
    exact dd.typeIs

/-- d[y] -/
noncomputable def tDGet (td ty : TE) : TE := fun σ H Q => td σ H fun x H1 => ty σ H1 fun y H2 => Ex2 fun a v => x = .ref a ∧ DGet H2 a y (some v) ∧ Q v H2

section
variable {X : Cx} {o i e value : Expr} {pos pos' tpos : Pos} {td ty tv : TE}
theorem pe_dget (hu : X.A.units + 1 < cLine) (ho : PE X o td) (hi : PE X i ty) (hs : NoSl i) : PE X (.Subscript o i pos) (tDGet td ty) := by
  intro pins s σ H Q I h
  refine subD_of PySem.F.slot_dict_getitem.lookup hs (thn (ho pins s σ H _ I h) fun u s1 ⟨x, H1, I1, rx, q1⟩ => thn (hi pins s1 σ H1 _ I1 q1) fun iv s2 hq => ?_)
  obtain ⟨y, H2, I2, ry, a, v, ex, g, q2⟩ := hq
  subst ex
  obtain rfl : u = Value.ref a := rx
  exact ⟨dict_typeIs I2 g, d_getItem hu I2 g ry fun w' s3 I3 rw' => ⟨v, H2, I3, rw', q2⟩⟩
end


/-! ### displays -/
theorem dk_empty {P : Program} {w : World} {H : Hp} (h : Heap) (hb : sysModules < h.objs.size) : ObjOk P w H (h.push { cls := .type "dict", data := .dict #[] }) h.objs.size (.dK []) :=
  ⟨Nat.zero_le _, beq_eq_false_iff_ne.mpr (Ne.symm (Nat.ne_of_lt hb)), [], .nil, Heap.DictOf.new h⟩

/-- the pairs of a display, from the left -/
noncomputable def tPairs : List (TE × TE) → St → Hp → (List (V × V) → Hp → Prop) → Prop
  | [], _, H, Q => Q [] H
  | (tk, tv) :: r, σ, H, Q => tk σ H fun x H1 => tv σ H1 fun y H2 => tPairs r σ H2 fun ps H3 => Q ((x, y) :: ps) H3
noncomputable abbrev VV : List (V × V) → List (Value × Value) → Prop := Paired fun p q => RelV p.1 q.1 ∧ RelV p.2 q.2
noncomputable def PPs (X : Cx) (pos : Pos) (keys : List (Option Expr)) (values : List Expr) (trs : List (TE × TE)) : Prop :=
  ∀ (pins : List (Addr × Obj)) (s : Shared) (σ : St) (H : Hp) (Q : List (V × V) → Hp → Prop), Inv X pins σ H s → tPairs trs σ H Q →
    wpAny (model X.prog X.w) X.A (evalPairs (pairTrees keys values X.env pos)) (fun vs s' => Ex2 fun ps H' => Inv X pins σ H' s' ∧ VV ps vs ∧ Q ps H') X.xe s
theorem pps_nil {X : Cx} {pos : Pos} : PPs X pos [] [] [] := fun pins s σ H Q I h => pairTrees_nil_walk ⟨[], H, I, .nil, h⟩
theorem pps_cons {X : Cx} {pos : Pos} {k v : Expr} {ks : List (Option Expr)} {vs : List Expr} {tk tv : TE} {trs : List (TE × TE)} (hk : PE X k tk) (hv : PE X v tv) (hr : PPs X pos ks vs trs) :
    PPs X pos (some k :: ks) (v :: vs) ((tk, tv) :: trs) := fun pins s σ H Q I h =>
  pairTrees_cons_walk (thn (hk pins s σ H _ I h) fun u s1 ⟨x, H1, I1, rx, q1⟩ => thn (hv pins s1 σ H1 _ I1 q1) fun w2 s2 ⟨y, H2, I2, ry, q2⟩ =>
    thn (hr pins s2 σ H2 _ I2 q2) fun ws s3 ⟨ps, H3, I3, rel, q3⟩ => ⟨(x, y) :: ps, H3, I3, .cons ⟨rx, ry⟩ rel, q3⟩)

noncomputable def mergeK (kvs more : List (Key × V)) : List (Key × V) := more.foldl (fun acc kv => putK acc kv.1 kv.2) kvs
theorem KV.merge : ∀ {more : List (Key × V)} {rs : List (Key × Value)} {kvs : List (Key × V)} {vs : List (Key × Value)}, KV more rs → KV kvs vs → KV (mergeK kvs more) (merged vs rs) := by
  intro more rs kvs vs r
  unfold KV at r
  induction r generalizing kvs vs with
  | nil => intro q; exact q
  | @cons p q ps qs h t ih =>
    intro r0
    have e : KV (putK kvs p.1 p.2) (stored vs q.1 q.2) := by
      have := r0.put p.1 h.2
      rw [← h.1]; exact this
    exact ih e
theorem length_mergeK : ∀ (more kvs : List (Key × V)), (mergeK kvs more).length ≤ kvs.length + more.length
  | [], kvs => by show kvs.length ≤ kvs.length + 0; lia
  | p :: r, kvs => by
    have h1 := length_mergeK r (putK kvs p.1 p.2)
    have h2 := length_putK kvs p.1 p.2
    show (mergeK (putK kvs p.1 p.2) r).length ≤ _
    rw [List.length_cons]; lia
theorem carries_of {P : Program} {w : World} : ∀ {kvs : List (Key × V)} {ws : List (Value × Value)}, VV (kvs.map fun kv => (kV kv.1, kv.2)) ws → ∃ rs, Carries (mixKind P w) ws rs ∧ KV kvs rs
  | [], _, r => by rw [List.map_nil] at r; cases r; exact ⟨[], True.intro, .nil⟩
  | p :: kvs, _, r => by
    rw [List.map_cons] at r
    cases r with
    | @cons a b as bs h t =>
      obtain ⟨rs, c, q⟩ := carries_of (P := P) (w := w) t
      obtain ⟨b1, b2⟩ := b
      exact ⟨(p.1, b2) :: rs, ⟨kV_is h.1, rfl, c⟩, .cons ⟨rfl, h.2⟩ q⟩
/-- {k: v, ..} with keys ints and texts; the new dict stands empty while the pairs are made -/
noncomputable def tDisp (trs : List (TE × TE)) : TE := fun σ H Q => ∀ p, H p = none → tPairs trs σ (upd H p (.dK [])) fun ps H2 => H2 p = some (.dK []) ∧ ∃ kvs : List (Key × V), ps = kvs.map (fun kv => (kV kv.1, kv.2)) ∧ kvs.length ≤ 15 ∧ Q (.ref p) (upd H2 p (.dK (mergeK [] kvs)))
theorem pe_disp {X : Cx} {pos : Pos} {keys : List (Option Expr)} {values : List Expr} {trs : List (TE × TE)} (h : PPs X pos keys values trs) (hall : keys.all (·.isSome) = true) (hl : keys.length = values.length) (h0 : keys ≠ [])
    (h15 : keys.length ≤ 15) : PE X (.Dict keys values pos) (tDisp trs) := by
  intro pins s σ H Q I q
  have hn := I.hok.fresh (Nat.le_refl s.heap.objs.size)
  have I1 := I.laid (a := s.heap.objs.size) (o := .dK []) (h' := s.heap.push { cls := .type "dict", data := .dict #[] }) (t' := s.toks) (fun _ _ q => Heap.get?_push_of_some _ q) (Nat.le_refl _) (dk_empty s.heap I.big)
  refine wpAny_Dict_walk (knd := mixKind X.prog X.w) hall hl h0 h15 (thn (h pins _ σ _ _ I1 (q _ hn)) fun ws s2 hq => ?_)
  obtain ⟨ps, H2, I2, rel, e, kvs, ep, lk, q2⟩ := hq
  subst ep
  obtain ⟨rs, c, rk⟩ := carries_of (P := X.prog) (w := X.w) rel
  obtain ⟨z, hd, vs0, r0, dd⟩ := dk_of I2.hok e
  cases r0
  refine ⟨rs, c, dd, fun h' dd' hs => ⟨.ref s.heap.objs.size, _, ?_, rfl, q2⟩⟩
  have hz : (mergeK [] kvs).length ≤ sizeLine := by
    have h1 := length_mergeK kvs []
    rw [List.length_nil] at h1
    rw [sizeLine_eq]; lia
  have he : ∃ q, h'.get? s.heap.objs.size = some q := let ⟨q, _, _, hq, _⟩ := dd'; ⟨q, hq⟩
  exact d_write I2 (by rw [e]; exact True.intro) hs he (dk_new hz hd (rk.merge .nil) dd')


/-! ### methods -/
/-- a method call o.m(e) of a built-in, with one argument: what must be seen of the text -/
structure M1 (X : Cx) (o : Expr) (m : Str) (apos : Pos) (e : Expr) (cpos : Pos) : Prop where
  base : attributeBase o m X.env (eval o X.env) = eval o X.env
  few : ((backTo cpos (starEach [e] X.env)).all (fun x => !x.1) && (backToKw cpos (keywordEach [] X.env)).all (fun x => x.1.isSome)
    && decide (([e] : List Expr).length + ([] : List Keyword).length + (if ([] : List Keyword).isEmpty then 0 else 1) < 30)) = true
  line : (apos.endLine == cpos.line) = true
  trees : backTo cpos (starEach [e] X.env) = [(false, eval e X.env)]
structure M2 (X : Cx) (o : Expr) (m : Str) (apos : Pos) (e f : Expr) (cpos : Pos) : Prop where
  base : attributeBase o m X.env (eval o X.env) = eval o X.env
  few : ((backTo cpos (starEach [e, f] X.env)).all (fun x => !x.1) && (backToKw cpos (keywordEach [] X.env)).all (fun x => x.1.isSome)
    && decide (([e, f] : List Expr).length + ([] : List Keyword).length + (if ([] : List Keyword).isEmpty then 0 else 1) < 30)) = true
  line : (apos.endLine == cpos.line) = true
  trees : backTo cpos (starEach [e, f] X.env) = [(false, eval e X.env), (false, eval f X.env)]




/-! ### dict(d): a copy -/


end L2

namespace L2
open PySem PySem.Spec PyProof.Rows
end L2
namespace L2
open PySem PySem.Spec PyProof.Rows
/-! ### a dict's pairs: keys that differ -/
end L2


end
section
set_option Elab.async false
set_option linter.all false
set_option maxRecDepth 100000
set_option maxHeartbeats 4000000
namespace L2
open PySem PySem.Spec PyProof.Rows

/-! ### a list comprehension of one clause, no exception in it -/
section
variable {prog : Program} {w : World} {A : Around} {R : Result → Shared → Prop} {s : Shared}
theorem compLoop_go {elt target iter : Expr} {ifs : List Expr} {scope : Scope} {pos : Pos} {it acc : Value} {env : Env} (I : Nat → Shared → Prop)
    (turn : ∀ n s, I n s → wpAny (model prog w) A (pyNext it) (fun r s₁ => match r with
      | none => R (.ok .next) s₁
      | some v => wpAny (model prog w) A (letOwnedTupleGo target it v) (fun _ s₁' => wpAny (model prog w) A (assign target env v) (fun _ s₂ =>
          wpAny (model prog w) A (forIn ifs true fun c r => if r = true then do let ok ← isTrue c env (eval c env); pure (ForInStep.yield ok) else pure (ForInStep.yield r)) (fun ok s₃ =>
            if ok = true then wpAny (model prog w) A (eval elt env) (fun x s₄ =>
              wpAny (model prog w) A (call (.builtin "list.append") [acc, x]) (fun _ s₅ => ∃ m, m < n ∧ I m s₅) (fun _ _ => False) s₄) (fun _ _ => False) s₃
            else ∃ m, m < n ∧ I m s₃) (fun _ _ => False) s₂) (fun _ _ => False) s₁') (fun _ _ => False) s₁) (fun _ _ => False) s)
    (n : Nat) (h : I n s) : codeAny (model prog w) A (.compLoop (.ListComp elt [⟨target, iter, ifs, 0⟩] scope pos) 0 it acc env) R s := by
  refine codeAny_loop rfl I (fun n s hI => ?_) n h
  show wpAny _ A ((compTurn (.ListComp elt [⟨target, iter, ifs, 0⟩] scope pos) 0 it acc env).onRaise (fun x => do noteFrame x env; theTreesLotGoes x)) _ _ s
  refine wpAny_noted (wpAny_noRaise ?_)
  rw [compTurn_list]
  refine wpAny_bind (wpAny_standAt (wpAny_bind (wpAny_mono (turn n s hI) (fun r s₁ h₁ => ?_) fun _ _ h' => h')))
  cases r with
  | none => exact wpAny_pure h₁
  | some v =>
    refine wpAny_bind (wpAny_mono h₁ (fun _ s₁' h₁' => ?_) fun _ _ h' => h')
    refine wpAny_bind (wpAny_mono h₁' (fun _ s₂ h₂ => wpAny_bind (wpAny_mono h₂ (fun ok s₃ h₃ => ?_) fun _ _ h' => h')) fun _ _ h' => h')
    cases ok with
    | false => exact wpAny_pure ⟨rfl, h₃⟩
    | true =>
      exact wpAny_bind (wpAny_bind (wpAny_mono h₃ (fun x s₄ h₄ => wpAny_bind (wpAny_mono h₄ (fun _ s₅ h₅ => wpAny_pure (wpAny_pure ⟨rfl, h₅⟩)) fun _ _ h' => h')) fun _ _ h' => h'))
end

theorem lookup_mem {α : Type} {x : Str} {k : α} : ∀ {l : List (Str × α)}, l.lookup x = some k → (x, k) ∈ l := fun h => PySem.mem_of_lookup h

theorem closureFor_some {scope : Scope} {env : Env} (h : ∀ x ∈ scope.names, x.2 = .free → ∃ c, env.cells.lookup x.1 = some c) :
    ∃ cl, closureFor scope env = pure cl ∧ (∀ n c, cl.lookup n = some c → env.cells.lookup n = some c) ∧ (∀ n, (n, NameKind.free) ∈ scope.names → ∃ c, cl.lookup n = some c) := by
  have aux : ∀ (names : List (Str × NameKind)) (cs : List (Str × Addr)), (∀ x ∈ names, x.2 = .free → ∃ c, env.cells.lookup x.1 = some c) → (∀ n c, cs.lookup n = some c → env.cells.lookup n = some c) →
      ∃ cl, (forIn names cs fun x r => if (x.2 == NameKind.free) = true then do let a ← cellOf env x.1; pure (ForInStep.yield ((x.1, a) :: r)) else pure (ForInStep.yield r) : Sem (List (Str × Addr))) = pure cl ∧
        (∀ n c, cl.lookup n = some c → env.cells.lookup n = some c) ∧ (∀ n, ((n, NameKind.free) ∈ names ∨ ∃ c, cs.lookup n = some c) → ∃ c, cl.lookup n = some c) := by
    intro names
    induction names with
    | nil => intro cs _ hc; exact ⟨cs, rfl, hc, fun n h => h.elim (fun z => nomatch z) id⟩
    | cons x r ih =>
      intro cs hx hc
      obtain ⟨n, k⟩ := x
      have hr : ∀ x ∈ r, x.2 = .free → ∃ c, env.cells.lookup x.1 = some c := fun y hy => hx y (List.mem_cons_of_mem _ hy)
      by_cases hk : k = .free
      · subst hk
        obtain ⟨c, e⟩ := hx (n, .free) List.mem_cons_self rfl
        have hc' : ∀ m d, List.lookup m ((n, c) :: cs) = some d → env.cells.lookup m = some d := fun m d hm => by
          rw [List.lookup_cons] at hm
          cases hb : m == n with
          | true => rw [hb] at hm; cases hm; rw [eq_of_beq hb]; exact e
          | false => rw [hb] at hm; exact hc m d hm
        obtain ⟨cl, h1, h2, h3⟩ := ih ((n, c) :: cs) hr hc'
        refine ⟨cl, ?_, h2, fun m hm => h3 m ?_⟩
        · rw [List.forIn_cons]
          have e2 : cellOf env n = pure c := by unfold cellOf; rw [e]
          simp only [beq_self_eq_true, if_true, e2]
          exact h1
        · rcases hm with hm | ⟨d, hm⟩
          · rcases List.mem_cons.mp hm with q | q
            · cases q; exact .inr ⟨c, by rw [List.lookup_cons, beq_self_eq_true]⟩
            · exact .inl q
          · refine .inr ?_
            rw [List.lookup_cons]
            cases hb : m == n with
            | true => exact ⟨c, rfl⟩
            | false => exact ⟨d, hm⟩
      · obtain ⟨cl, h1, h2, h3⟩ := ih cs hr hc
        refine ⟨cl, ?_, h2, fun m hm => h3 m ?_⟩
        · rw [List.forIn_cons]
          have : (k == NameKind.free) = false := by simpa using hk
          simp only [this, Bool.false_eq_true, if_false]
          exact h1
        · rcases hm with hm | hm
          · rcases List.mem_cons.mp hm with q | q
            · cases q; exact absurd rfl hk
            · exact .inl q
          · exact .inr hm
  obtain ⟨cl, h1, h2, h3⟩ := aux scope.names [] h (fun n c z => by simp at z)
  refine ⟨cl, ?_, h2, fun n hn => h3 n (.inl hn)⟩
  simp only [closureFor]
  rw [h1]
  rfl

theorem relabel_lookup {env : Env} : ∀ {names : List (Str × NameKind)} {x : Str} {k : NameKind},
    (names.map fun (n, k) => if (k == NameKind.free && env.scope.kind == .function && env.kindOf n == some .cell) then (n, NameKind.cell) else (n, k)).lookup x = some k → (k = .cell ∨ k = .free) →
    names.lookup x = some .free ∨ names.lookup x = some .cell
  | [], _, _, h, _ => by simp at h
  | (n, q) :: r, x, k, h, hk => by
    have ih := @relabel_lookup env r x k
    rw [List.map_cons, List.lookup_cons] at h
    rw [List.lookup_cons]
    by_cases hc : (q == NameKind.free && env.scope.kind == .function && env.kindOf n == some .cell) = true
    · simp only [if_pos hc] at h
      cases hx : x == n with
      | true =>
        have : q = .free := by
          have := (Bool.and_eq_true_iff.mp (Bool.and_eq_true_iff.mp hc).1).1
          exact eq_of_beq this
        simp [this]
      | false => rw [hx] at h; exact ih h hk
    · simp only [if_neg hc] at h
      cases hx : x == n with
      | true =>
        rw [hx] at h
        cases h
        rcases hk with rfl | rfl
        · exact .inr rfl
        · exact .inl rfl
      | false => rw [hx] at h; exact ih h hk
theorem relabel_free {env : Env} : ∀ {names : List (Str × NameKind)} {x : Str}, names.lookup x = some .free →
    (names.map fun (n, k) => if (k == NameKind.free && env.scope.kind == .function && env.kindOf n == some .cell) then (n, NameKind.cell) else (n, k)).lookup x = some .cell ∨
    (names.map fun (n, k) => if (k == NameKind.free && env.scope.kind == .function && env.kindOf n == some .cell) then (n, NameKind.cell) else (n, k)).lookup x = some .free
  | [], _, h => by simp at h
  | (n, q) :: r, x, h => by
    have ih := @relabel_free env r x
    rw [List.map_cons, List.lookup_cons]
    rw [List.lookup_cons] at h
    by_cases hc : (q == NameKind.free && env.scope.kind == .function && env.kindOf n == some .cell) = true
    · simp only [if_pos hc]
      cases hx : x == n with
      | true => exact .inl rfl
      | false => rw [hx] at h; exact ih h
    · simp only [if_neg hc]
      cases hx : x == n with
      | true => rw [hx] at h; cases h; exact .inr rfl
      | false => rw [hx] at h; exact ih h

/-- the context of a comprehension's block -/
noncomputable def cxC (X : Cx) (N : List Str) (scope : Scope) (cl : List (Str × Addr)) (C : Addr) (fp : List Addr) (s : Shared) (H : Hp) : Cx :=
  { prog := X.prog, w := X.w, K := X.K, mg := X.mg, base := X.base, A := X.A, N := N, s₀ := s, H₀ := H, env := compEnvC scope cl C X.env, outer := X.stack, stack := X.stack, ex := fp, fn := fun _ => false, calm := X.calm, pn := [], xe := fun _ _ => False }

/-- the names of a comprehension: its targets tg, the captured names cp, which stand at the places ci of the def's names -/
structure CSc (M : List Str) (sc : Scope) (tg cp : List Str) (ci : List Nat) (scope : Scope) : Prop where
  kind : scope.kind = .function
  nocell : ∀ x ∈ scope.names, x.2 ≠ .cell
  loc : ∀ x ∈ scope.names, x.2 = .local → scope.names.lookup x.1 = some .local
  free : ∀ x ∈ scope.names, x.2 = .free → sc.names.lookup x.1 = some .cell ∨ sc.names.lookup x.1 = some .free
  cap : ∀ x ∈ cp, scope.names.lookup x = some .free
  at_ : ci.map (M[·]?) = cp.map some
  nd : (tg ++ cp).Nodup
noncomputable def capσ (k : Nat) (ci : List Nat) (σ : St) : St := List.replicate k none ++ ci.map fun i => (σ[i]?).join

noncomputable abbrev TComp := Nat → Nat → List V → Hp → Prop
noncomputable def tComp (wi : TI) (k : Nat) (ci : List Nat) (g : TG) (ti : TT) (te : TE) : TE := fun σ H Q => wi σ H fun J H1 => ∃ W : TComp, (∃ m, W 0 m [] H1) ∧ ∀ i m acc H, W i m acc H →
  (J.stop i H ∧ ∀ D, H D = none → Q (.ref D) (upd H D (.lst acc))) ∨
  (J.go i H ∧ acc.length < sizeLine ∧ ∃ N : List V → Hp → Prop, (∀ acc' H', N acc' H' → ∃ m', m' < m ∧ W (i + 1) m' acc' H') ∧ ∀ x H', J.yld i H x H' → g x (capσ k ci σ) H' fun σ2 H2 => ti σ2 H2 fun b H3 => if b = true then te σ2 H3 fun v H4 => N (acc ++ [v]) H4 else N acc H3)
/-- the tests of a clause -/
noncomputable def PIfs (X : Cx) (ifs : List Expr) (t : TT) : Prop :=
  ∀ (pins : List (Addr × Obj)) (s : Shared) (σ : St) (H : Hp) (Q : Bool → Hp → Prop), Inv X pins σ H s → t σ H Q →
    wpAny (model X.prog X.w) X.A (forIn ifs true fun c r => if r = true then do let ok ← isTrue c X.env (eval c X.env); pure (ForInStep.yield ok) else pure (ForInStep.yield r)) (TP X pins σ Q) X.xe s
noncomputable def tNoIf : TT := fun _ H Q => Q true H
theorem pifs_nil {X : Cx} : PIfs X [] tNoIf := fun pins s σ H Q I h => wpAny_tests_nil ⟨H, I, h⟩
theorem pifs_one {X : Cx} {c : Expr} {t : TT} (h : PT X c t) : PIfs X [c] t := fun pins s σ H Q I hq => wpAny_tests_one (h pins s σ H Q I hq)

section
variable {X : Cx}
/-- C, the block's own names, behind the block -/
structure Gone (X : Cx) (pins : List (Addr × Obj)) (H : Hp) (s : Shared) (C : Addr) : Prop where
  ns : ∃ m, s.heap.Ns C m
  free : H C = none
  ne : C ≠ X.env.locals
  ab : X.s₀.heap.objs.size ≤ C
  cells : ∀ x c, X.env.cells.lookup x = some c → c ≠ C
  pins : ∀ p ∈ X.pn ++ pins, p.1 ≠ C
  nofs : C ∉ X.fs

theorem comp_run {elt target iter : Expr} {ifs : List Expr} {scope : Scope} {pos : Pos} {tg cp : List Str} {ci : List Nat} {wi : TI} {g : TG} {ti : TT} {te : TE}
    {pins : List (Addr × Obj)} {s : Shared} {σ : St} {H : Hp} {Q : VK} {cl : List (Str × Addr)}
    (S : CSc X.N X.env.scope tg cp ci scope) (hcalm : X.calm = true) (hi : PI X target iter wi)
    (hcl1 : ∀ n c, cl.lookup n = some c → X.env.cells.lookup n = some c) (hcl2 : ∀ n, (n, NameKind.free) ∈ scope.names → ∃ c, cl.lookup n = some c)
    (hg : ∀ C fp s H, PG (cxC X (tg ++ cp) scope cl C fp s H) target g) (ht : ∀ C fp s H, PIfs (cxC X (tg ++ cp) scope cl C fp s H) ifs ti) (he : ∀ C fp s H, PE (cxC X (tg ++ cp) scope cl C fp s H) elt te)
    (I : Inv X pins σ H s) (h : tComp wi tg.length ci g ti te σ H Q) :
    wpAny (model X.prog X.w) X.A (eval iter X.env) (fun x s₁ => wpAny (model X.prog X.w) X.A (pyIter x) (fun it s₂ => wpAny (model X.prog X.w) X.A (newList []) (fun acc s₃ =>
      wpAny (model X.prog X.w) X.A (newFunctionEnv scope X.env.globals cl [] X.env.qual none .none (some X.env)) (fun cenv s₄ =>
        codeAny (model X.prog X.w) X.A (.compStart (.ListComp elt [⟨target, iter, ifs, 0⟩] scope pos) 0 it acc { cenv with scope := relabel scope X.env })
          (fun r s' => Ex3 fun D vs H' => acc = .ref D ∧ r = .ok .next ∧ Inv X pins σ (upd H' D (.lst vs)) s' ∧ H' D = none ∧ Gone X pins (upd H' D (.lst vs)) s' cenv.locals ∧ ∀ D', H' D' = none → Q (.ref D') (upd H' D' (.lst vs))) s₄) X.xe s₃) X.xe s₂) X.xe s₁) X.xe s := by
  refine thn (hi pins s σ H _ I h) fun v s1 h1 => thn h1 fun itv s2 h2 => ?_
  obtain ⟨it, fp, tn, J, H2, e, I2, T, st2, f2, W, ⟨m0, w0⟩, turn⟩ := h2
  subst e
  refine wpAny_newObj_type (wpAny_newFunctionEnv S.nocell (by intro y hy; simp at hy) (fun h₁ hns₁ hsb₁ => ?_) S.kind)
  dsimp only at hns₁ hsb₁ ⊢
  generalize hHL : s2.heap.push { cls := .type "list", dict := none, data := .seq ([] : List Value).toArray } = HL at hns₁ hsb₁ ⊢
  have hC : HL.objs.size = s2.heap.objs.size + 1 := by rw [← hHL, Heap.size_push]
  -- the two new addresses
  generalize hD : s2.heap.objs.size = D at hC ⊢
  generalize hCC : HL.objs.size = C at hns₁ hsb₁ hC ⊢
  have hDC : D ≠ C := by lia
  have old : ∀ b o, s2.heap.get? b = some o → h₁.get? b = some o := fun b o e => by
    have lt : s2.heap.objs.size ≥ Nat.succ b := Heap.lt_size e
    refine hsb₁.extBut b o (show @Ne Nat b C by lia) (Heap.get?_push_of_some _ (hHL ▸ Heap.get?_push_of_some _ e))
  have hD1 : h₁.get? D = some { cls := .type "list", data := .seq ([] : List Value).toArray 0 } := by
    refine hsb₁.extBut D _ hDC (Heap.get?_push_of_some _ ?_)
    rw [← hHL, ← hD]
    exact Heap.get?_push_size _ rfl
  have fD : H2 D = none := I2.hok.fresh (by lia)
  have fC : H2 C = none := I2.hok.fresh (by lia)
  let X' : Cx := cxC X (tg ++ cp) scope cl C fp s2 H2
  have ok' : X'.Ok := by
    refine ⟨I2.ok.mod, ?_, I2.ok.glob, I2.ok.blt, ?_, ?_, ?_, ?_, I2.ok.hd, I2.ok.frames, .inl rfl, ?_, I2.bs, Nat.le_trans I2.ok.bsz I2.sz, ?_, ?_, I2.stack, I2.stkFree⟩
    · exact S.kind
    · show s2.heap.objs.size ≤ C; lia
    · intro x y c hx hy; exact I2.ok.inj x y c (hcl1 x c hx) (hcl1 y c hy)
    · intro x hx
      have hx' : (relabel scope X.env).names.lookup x = some .cell ∨ (relabel scope X.env).names.lookup x = some .free := hx
      have q : scope.names.lookup x = some .free ∨ scope.names.lookup x = some .cell := by
        rcases hx' with z | z
        · exact relabel_lookup z (.inl rfl)
        · exact relabel_lookup z (.inr rfl)
      rcases q with q | q
      · exact hcl2 x (lookup_mem q)
      · exact absurd rfl (S.nocell _ (lookup_mem q))
    · intro x c hx; cases hx
    · intro b hb
      obtain ⟨o, eo, _⟩ := T.obj _ _ st2 b hb
      have lt : s2.heap.objs.size ≥ Nat.succ b := Heap.lt_size eo
      exact ⟨by show @Ne Nat b C; lia, fun x c hx => (f2 b hb).2.2.2.2.1 x c (hcl1 x c hx)⟩
    · intro b o e hb
      rcases (f2 b hb).2.2.2.1 with z | z
      · exact I2.ok.noex b o e z
      · have l1 : X.base.objs.size ≥ Nat.succ b := Heap.lt_size e
        have l2 : X.base.objs.size ≤ X.s₀.heap.objs.size := I2.ok.bsz
        have l3 : X.s₀.heap.objs.size ≤ (b : Nat) := z
        lia
    · intro b hb hbs
      rcases List.mem_cons.mp (I2.stkSub b hbs) with z | z
      · exact (f2 b hb).2.1 z
      · exact (f2 b hb).2.2.1 z
  have capLen : (capσ tg.length ci σ).length = X'.N.length := by
    show (List.replicate tg.length none ++ ci.map fun i => (σ[i]?).join).length = (tg ++ cp).length
    have := congrArg List.length S.at_
    simp only [List.length_map] at this
    simp [this]
  have capLook : ∀ (h' : Heap) (m' : Str → Option Value), (∀ x c o, X.env.cells.lookup x = some c → s2.heap.get? c = some o → ∃ sl, h'.get? c = some { o with slots := sl }) →
      ∀ (i : Nat) (x : Str) (v : V), X'.N[i]? = some x → (capσ tg.length ci σ)[i]? = some (some v) → Vis X'.env.scope x → ∃ u, RelV v u ∧ Look X'.env h' m' x u := by
    intro h' m' hcell i x v e1 e2 e3
    have e1' : (tg ++ cp)[i]? = some x := e1
    have e2' : (List.replicate tg.length none ++ ci.map fun i => (σ[i]?).join)[i]? = some (some v) := e2
    by_cases hi' : i < tg.length
    · rw [List.getElem?_append_left (by simpa using hi'), List.getElem?_replicate] at e2'
      split at e2' <;> cases e2'
    · rw [List.getElem?_append_right (by simpa using hi'), List.length_replicate, List.getElem?_map] at e2'
      rw [List.getElem?_append_right (by lia)] at e1'
      cases hj : ci[i - tg.length]? with
      | none => rw [hj] at e2'; cases e2'
      | some j =>
        rw [hj] at e2'
        have e2'' : (σ[j]?).join = some v := Option.some.inj e2'
        have e4 : σ[j]? = some (some v) := by
          cases q : σ[j]? with
          | none => rw [q] at e2''; cases e2''
          | some z => rw [q] at e2''; exact congrArg some e2''
        have e5 : X.N[j]? = some x := by
          have := congrArg (·[i - tg.length]?) S.at_
          simp only [List.getElem?_map, hj, e1', Option.map_some] at this
          exact Option.some.inj this
        have hx : scope.names.lookup x = some .free := S.cap x (List.mem_of_getElem? e1')
        have hk := S.free (x, .free) (lookup_mem hx) rfl
        obtain ⟨m, hn, hl⟩ := I2.loc
        obtain ⟨u, r, l⟩ := hl j x v e5 e4 (.inr hk)
        refine ⟨u, r, .inr ⟨?_, ?_⟩⟩
        · exact relabel_free hx
        · rcases l with ⟨k1, _⟩ | ⟨_, c, k2, k3⟩
          · have k1' : X.env.scope.names.lookup x = some .local := k1
            rcases hk with z | z <;> (rw [z] at k1'; cases k1')
          · obtain ⟨c', hc'⟩ := hcl2 x (lookup_mem hx)
            have := hcl1 x c' hc'
            rw [k2] at this; cases this
            obtain ⟨o, ho, hd⟩ := k3
            obtain ⟨sl, q⟩ := hcell x c o k2 ho
            exact ⟨c, hc', _, q, hd⟩
  have I' : ∀ tk, Inv X' [] (capσ tg.length ci σ) H2 { s2 with heap := h₁, toks := tk } := fun tk => by
    refine ⟨ok', rfl, I2.bare, Un.kept old, ⟨_, hns₁, capLook _ _ fun x c o _ e => ⟨o.slots, old c o e⟩⟩, fun x c hx => ?_, fC, fun x c hx => I2.freeC x c (hcl1 x c hx), fun p hp => absurd (show p ∈ ([] : List (Addr × Obj)) from hp) (by simp), I2.hok.kept old, ?_⟩
    · obtain ⟨v, o, ho, hd⟩ := I2.cell x c (hcl1 x c hx)
      exact ⟨v, o, old c o ho, hd⟩
    · exact capLen
  have recap : ∀ {pl pl' : List (Addr × Obj)} {σ' : St} {H' : Hp} {s' : Shared}, Inv X' (pl ++ pl') σ' H' s' → Inv X' pl (capσ tg.length ci σ) H' s' := fun {pl pl' σ' H' s'} J => by
    obtain ⟨m, hn, _⟩ := J.loc
    have u : Un (frs X.stack) fp H2 H' s2.heap s'.heap := J.base
    exact ⟨J.ok, J.os, J.bare, J.base, ⟨m, hn, capLook _ _ fun x c o hx e => u.any e (I2.freeC x c hx) fun hb => (f2 c hb).2.2.2.2.1 x c hx rfl⟩, J.cell, J.free, J.freeC,
      fun p hp => (List.mem_append.mp hp).elim (fun z => J.pin p (List.mem_append_left _ z)) (fun z => J.pin p (List.mem_append_right _ (List.mem_append_left _ z))), J.hok, capLen⟩
  have stat : ∀ {H' : Hp}, (∀ b ∈ fp, H' b = none) → ∀ b ∈ fp, FpOk X' [] H' b := fun hn b hb => by
    obtain ⟨o, eo, _⟩ := T.obj _ _ st2 b hb
    have lt : s2.heap.objs.size ≥ Nat.succ b := Heap.lt_size eo
    exact ⟨hn b hb, by show @Ne Nat b C; lia, ok'.exfs b hb, .inl hb, (ok'.exf b hb).2, fun p hp => absurd (show p ∈ ([] : List (Addr × Obj)) from hp) (by simp)⟩
  have hDfp : D ∉ fp := fun hb => by obtain ⟨o, eo, _⟩ := T.obj _ _ st2 D hb; have lt : s2.heap.objs.size ≥ Nat.succ D := Heap.lt_size eo; lia
  have hDcell : ∀ x c, X'.env.cells.lookup x = some c → c ≠ D := fun x c hx => by
    obtain ⟨v, o, ho, hd⟩ := I2.cell x c (hcl1 x c hx)
    have lt : s2.heap.objs.size ≥ Nat.succ c := Heap.lt_size ho
    intro z; have z' : @Eq Nat c D := z; lia
  have hDfs : D ∉ X'.fs := fun hb => by
    have : D ∈ X.env.locals :: X.fs := I2.stkSub D hb
    rcases List.mem_cons.mp this with z | z
    · have l1 : s2.heap.objs.size ≥ Nat.succ X.env.locals := I2.lt
      have z' : @Eq Nat D X.env.locals := z
      lia
    · exact I2.nofs (show s2.heap.objs.size ≤ D by lia) z
  have fin : ∀ {pl : List (Addr × Obj)} {σ' : St} {H' : Hp} {s' : Shared} {vs : List V} {us : List Value} {k : Nat}, Inv X' pl σ' H' s' → H' D = none → s'.heap.get? D = some { cls := .type "list", data := .seq us.toArray k } → Vals vs us → vs.length ≤ sizeLine →
      (∀ D', H' D' = none → Q (.ref D') (upd H' D' (.lst vs))) →
      Ex3 fun D' vs H' => Value.ref D = .ref D' ∧ (Except.ok Flow.next : Result) = .ok .next ∧ Inv X pins σ (upd H' D' (.lst vs)) s' ∧ H' D' = none ∧ Gone X pins (upd H' D' (.lst vs)) s' C ∧ ∀ D', H' D' = none → Q (.ref D') (upd H' D' (.lst vs)) := by
    intro pl σ' H' s' vs us k J f e r z q
    have u : Un (frs X.stack) fp H2 H' s2.heap s'.heap := J.base
    have lt : ∀ {b : Addr} {o : Obj}, s2.heap.get? b = some o → b ≠ D := fun {b o} eb zb => by
      have l1 : s2.heap.objs.size ≥ Nat.succ b := Heap.lt_size eb
      have l2 : @Eq Nat b D := zb
      lia
    have u2 : Un (frs X.stack) fp H2 (upd H' D (.lst vs)) s2.heap s'.heap :=
      ⟨u.keep, u.slot, fun b o eb n hx => by rw [upd_ne (lt eb)]; exact u.free b o eb n hx, u.there,
       fun b xs eb => by rw [upd_ne (ne_of_none eb fD)]; exact u.tups b xs eb, fun b o uu eb => by rw [upd_ne (ne_of_none eb fD)]; exact u.frzs b o uu eb, fun b ps eb => by rw [upd_ne (ne_of_none eb fD)]; exact u.tbls b ps eb⟩
    have hok2 : HOk X.prog X.w (upd H' D (.lst vs)) s'.heap := fun b o eb => by
      by_cases hb : b = D
      · subst hb
        rw [upd_same] at eb; cases eb
        exact ⟨z, us, k, r, e⟩
      · rw [upd_ne hb] at eb
        refine (J.hok b o eb).stay (fun _ _ _ q => q) (fun c hc => ?_) fun c xs hc => ?_
        · rw [upd_ne (fun zz => by rw [zz, f] at hc; cases hc)]; exact hc
        · rw [upd_ne (fun zz => by rw [zz, f] at hc; cases hc)]; exact hc
    refine ⟨D, vs, H', rfl, rfl, I2.call' (ch := fp) J.os u2 hok2 J.bare ?_, f, ⟨?_, ?_, ?_, ?_, ?_, ?_, ?_⟩, q⟩
    · intro b hb
      obtain ⟨_, a2, _, a4, a5, a6⟩ := f2 b hb
      exact ⟨a4, a2, a5, a6⟩
    · obtain ⟨m, hn, _⟩ := J.loc; exact ⟨m, hn⟩
    · rw [upd_ne (Ne.symm hDC)]; exact J.free
    · have l1 : s2.heap.objs.size ≥ Nat.succ X.env.locals := I2.lt
      intro zz; have zz' : @Eq Nat C X.env.locals := zz; lia
    · have l1 : X.s₀.heap.objs.size ≤ s2.heap.objs.size := I2.sz
      show X.s₀.heap.objs.size ≤ C; lia
    · intro x c hx zz
      obtain ⟨v, o, ho, hd⟩ := I2.cell x c hx
      have l1 : s2.heap.objs.size ≥ Nat.succ c := Heap.lt_size ho
      have zz' : @Eq Nat c C := zz
      lia
    · intro p hp zz
      have l1 : s2.heap.objs.size ≥ Nat.succ p.1 := Heap.lt_size (I2.pin p hp).1
      have zz' : @Eq Nat p.1 C := zz
      lia
    · exact I2.nofs (show s2.heap.objs.size ≤ C by lia)
  have loop : ∀ tk, codeAny (model X.prog X.w) X.A (.compLoop (.ListComp elt [⟨target, iter, ifs, 0⟩] scope pos) 0 (.ref it) (.ref D) (compEnvC scope cl C X.env))
      (fun r s' => Ex3 fun D' vs H' => Value.ref D = .ref D' ∧ r = .ok .next ∧ Inv X pins σ (upd H' D' (.lst vs)) s' ∧ H' D' = none ∧ Gone X pins (upd H' D' (.lst vs)) s' C ∧ ∀ D', H' D' = none → Q (.ref D') (upd H' D' (.lst vs))) { s2 with heap := h₁, toks := tk } := by
    intro tk
    refine compLoop_go (fun n s' => Ex5 fun i vs us k H' => Inv X' [] (capσ tg.length ci σ) H' s' ∧ tn i s'.heap ∧ (∀ b ∈ fp, H' b = none) ∧ H' D = none ∧ s'.heap.get? D = some { cls := .type "list", data := .seq us.toArray k } ∧ Vals vs us ∧ vs.length ≤ sizeLine ∧ W i n vs H') ?_ m0
      ⟨0, [], [], 0, H2, I' tk, T.keep _ _ _ st2 (fun b hb o e => old b o e), fun b hb => (f2 b hb).1, fD, hD1, .nil, Nat.zero_le _, w0⟩
    rintro n s3 ⟨i, vs, us, k, H3, I3, st3, fr3, fD3, hD3, rv3, z3, w3⟩
    -- the list is pinned while the iterator turns and the element is reckoned
    let pD : List (Addr × Obj) := [(D, { cls := .type "list", data := .seq us.toArray k })]
    have pinD : ∀ {σ' : St} {H' : Hp} {s' : Shared}, Inv X' [] σ' H' s' → H' D = none → s'.heap.get? D = some { cls := .type "list", data := .seq us.toArray k } → Inv X' pD σ' H' s' := fun {σ' H' s'} J f e =>
      J.pins_of fun p hp => by
        have : p = (D, { cls := .type "list", data := .seq us.toArray k }) := by simpa [pD] using hp
        subst this
        exact ⟨e, f, hDC, hDfs, fun v z => by cases z⟩
    have statD : ∀ {H' : Hp}, (∀ b ∈ fp, H' b = none) → ∀ b ∈ fp, FpOk X' pD H' b := fun hn b hb => by
      obtain ⟨a1, a2, a3, a4, a5, _⟩ := stat hn b hb
      refine ⟨a1, a2, a3, a4, a5, fun p hp => ?_⟩
      have : p = (D, { cls := .type "list", data := .seq us.toArray k }) := by
        have hp' : p ∈ ([] : List (Addr × Obj)) ++ pD := hp
        simpa [pD] using hp'
      subst this
      exact fun z => hDfp (by rw [show D = b from z]; exact hb)
    rcases turn i n vs H3 w3 with ⟨stop, qn⟩ | ⟨go, zl, N, hN, step⟩
    · refine thn (T.done X' rfl rfl rfl hcalm i pD s3 _ H3 _ (pinD I3 fD3 hD3) (statD fr3) st3 stop) fun r s4 hq => ?_
      obtain ⟨hr, I4⟩ := hq
      subst hr
      have eD : s4.heap.get? D = some { cls := .type "list", data := .seq us.toArray k } := (I4.pin (D, _) (by simp [pD])).1
      exact fin I4 fD3 eD rv3 z3 qn
    · refine thn (T.item X' rfl rfl rfl hcalm i pD s3 _ H3 _ (pinD I3 fD3 hD3) (statD fr3) st3 go) fun r s4 hq => ?_
      obtain ⟨u, hr, h4⟩ := hq
      subst hr
      refine thn h4 fun _ s5 hq => ?_
      obtain ⟨x, H5, I5, r5, y5, st5, fr5⟩ := hq
      have I5' := I5.pinned (statD fr5) (T.obj _ _ st5)
      refine thn (hg C fp s2 H2 _ s5 _ H5 x u _ I5' r5 (step x H5 y5)) fun _ s6 hq => ?_
      obtain ⟨σ6, H6, I6, q6⟩ := hq
      refine thn (ht C fp s2 H2 _ s6 σ6 H6 _ I6 q6) fun b s7 hq => ?_
      obtain ⟨H7, I7, q7⟩ := hq
      -- back to the turn's start
      have again : ∀ {s8 : Shared} {H8 : Hp}, Inv X' (pD ++ pinsAt fp s5.heap) σ6 H8 s8 → Inv X' pD (capσ tg.length ci σ) H8 s8 ∧ tn (i + 1) s8.heap ∧ (∀ b ∈ fp, H8 b = none) ∧ H8 D = none ∧ s8.heap.get? D = some { cls := .type "list", data := .seq us.toArray k } := fun {s8 H8} I8 => by
        have e8 := I8.pin (D, _) (List.mem_append_right _ (List.mem_append_left _ (by simp [pD] <;> rfl)))
        refine ⟨?_, T.keep _ _ _ st5 fun b hb o e => (I8.pin (b, o) (List.mem_append_right _ (List.mem_append_right _ (mem_pinsAt hb e)))).1, fun b hb => ?_, e8.2.1, e8.1⟩
        · exact recap I8
        · obtain ⟨o, e, d⟩ := T.obj _ _ st5 b hb
          exact (I8.pin (b, o) (List.mem_append_right _ (List.mem_append_right _ (mem_pinsAt hb e)))).2.1
      cases b with
      | false =>
        obtain ⟨m', hm, w7⟩ := hN _ _ q7
        obtain ⟨J, t7, f7, d7, e7⟩ := again I7
        exact ⟨m', hm, i + 1, vs, us, k, H7, J.pins_of (fun p hp => nomatch hp), t7, f7, d7, e7, rv3, z3, w7⟩
      | true =>
        simp only [if_true] at q7 ⊢
        refine thn (he C fp s2 H2 _ s7 σ6 H7 _ I7 q7) fun y s8 hq => ?_
        obtain ⟨yv, H8, I8, r8, q8⟩ := hq
        obtain ⟨m', hm, w8⟩ := hN _ _ q8
        obtain ⟨J, t8, f8, d8, e8⟩ := again I8
        refine call_meets F.slot_list_append ⟨_, e8, rfl⟩ F.entry_list_append (F.args_list_append_2 _ _) (PySem.list_append D us.toArray k y (by rw [List.size_toArray, ← rv3.length]; exact z3)) ⟨e8, ?_⟩
        have q := PySem.IsL.update e8 (·.push y)
        have J0 : Inv X' [] (capσ tg.length ci σ) H8 s8 := J.pins_of (fun p hp => nomatch hp)
        refine ⟨m', hm, i + 1, vs ++ [yv], us ++ [y], _, H8, J0.turned (it := D) (t' := s8.toks) (fun b o hb hu => (Heap.get?_update_other s8.heap _ (Ne.symm hb)).trans hu) d8 hDC (.inr (by show s2.heap.objs.size ≤ D; lia)) hDcell (fun p hp => absurd (show p ∈ ([] : List (Addr × Obj)) from hp) (by simp)), ?_, f8, d8, by simpa using q, rv3.append (.cons r8 .nil), by simp; lia, w8⟩
        exact T.keep _ _ _ t8 fun b hb o hu => (Heap.get?_update_other s8.heap _ (fun z => hDfp (by rw [z]; exact hb))).trans hu
  exact codeAny_compStart_list (loop _) (T.self X.A 0 _ _ _ (T.keep _ _ _ st2 (fun b hb o e => old b o e)) (loop _))

theorem Gone.turned {pins : List (Addr × Obj)} {σ : St} {H : Hp} {s : Shared} {C : Addr} {h' : Heap} (G : Gone X pins H s C) (I : Inv X pins σ H s) (hs : Heap.SameBut C s.heap h') : Inv X pins σ H { s with heap := h' } :=
  I.turned (t' := s.toks) (fun b o hb e => hs.extBut b o hb e) G.free G.ne (.inr G.ab) G.cells G.pins

theorem pe_lcomp {elt target iter : Expr} {ifs : List Expr} {scope : Scope} {pos : Pos} {tg cp : List Str} {ci : List Nat} {wi : TI} {g : TG} {ti : TT} {te : TE}
    (S : CSc X.N X.env.scope tg cp ci scope) (hcalm : X.calm = true) (hi : PI X target iter wi)
    (hg : ∀ cl C fp s H, PG (cxC X (tg ++ cp) scope cl C fp s H) target g) (ht : ∀ cl C fp s H, PIfs (cxC X (tg ++ cp) scope cl C fp s H) ifs ti) (he : ∀ cl C fp s H, PE (cxC X (tg ++ cp) scope cl C fp s H) elt te)
    (hs : ∀ x, foldedSetIterable iter X.env x = pure x := by intro _; rfl) : PE X (.ListComp elt [⟨target, iter, ifs, 0⟩] scope pos) (tComp wi tg.length ci g ti te) := by
  intro pins s σ H Q I h
  obtain ⟨cl, hclos, h1, h2⟩ := closureFor_some (scope := scope) (env := X.env) fun x hx hf => I.ok.has x.1 (S.free x hx hf)
  rw [eval_ListComp]
  refine wpAny_comprehension_free (use := none) rfl hs hclos S.kind S.loc (thn (comp_run S hcalm hi h1 h2 (hg cl) (ht cl) (he cl) I h) fun x s1 q1 => thn q1 fun it s2 q2 => thn q2 fun acc s3 q3 => thn q3 fun cenv s4 q4 => codeAny_mono q4 fun r s' q => ?_)
  obtain ⟨D, vs, H', e1, e2, I', f, G, q⟩ := q
  subst e1 e2
  obtain ⟨m, hn⟩ := G.ns
  exact ⟨m, hn, fun h' hsb => ⟨.ref D, _, G.turned I' hsb, rfl, q D f⟩⟩

/-- name = [.. for ..] -/
theorem ps_setC {i : Nat} {y : Str} {py : Pos} {elt target iter : Expr} {ifs : List Expr} {scope : Scope} {pos spos : Pos} {tg cp : List Str} {ci : List Nat} {wi : TI} {g : TG} {ti : TT} {te : TE}
    (hN : X.N.Nodup) (hi' : X.N[i]? = some y) (hy : Loc X.env.scope y)
    (S : CSc X.N X.env.scope tg cp ci scope) (hcalm : X.calm = true) (hi : PI X target iter wi)
    (hg : ∀ cl C fp s H, PG (cxC X (tg ++ cp) scope cl C fp s H) target g) (ht : ∀ cl C fp s H, PIfs (cxC X (tg ++ cp) scope cl C fp s H) ifs ti) (he : ∀ cl C fp s H, PE (cxC X (tg ++ cp) scope cl C fp s H) elt te)
    (hsw : swapsWith (.ListComp elt [⟨target, iter, ifs, 0⟩] scope pos) (some (.Name y py)) spos.line X.env = pure true := by rfl)
    (hs : ∀ x, foldedSetIterable iter X.env x = pure x := by intro _; rfl) (hf : X.fn y = true ∨ X.env.scope.names.lookup y = some .local := by first | exact .inl rfl | exact .inr rfl | assumption) :
    PS X (.Assign [.Name y py] (.ListComp elt [⟨target, iter, ifs, 0⟩] scope pos) spos) (tAsg (tComp wi tg.length ci g ti te) (gName i)) := by
  intro pins s σ H D I h
  obtain ⟨cl, hclos, h1, h2⟩ := closureFor_some (scope := scope) (env := X.env) fun x hx hf => I.ok.has x.1 (S.free x hx hf)
  rw [exec_Assign_Name_used _ _ _ _ hsw]
  refine wpAny_bind (wpAny_standAt (wpAny_bind ?_))
  show wpAny _ X.A (do let _ ← comprehension (.ListComp elt [⟨target, iter, ifs, 0⟩] scope pos) scope X.env _ (newList []) false (eval iter X.env) (some (assign (.Name y py) X.env))) _ _ s
  refine wpAny_bind (wpAny_mono (wpAny_comprehension_free (use := some (assign (.Name y py) X.env)) (Q := fun _ s' => SP X pins D .next s') rfl hs hclos S.kind S.loc
    (thn (comp_run S hcalm hi h1 h2 (hg cl) (ht cl) (he cl) I h) fun x s1 q1 => thn q1 fun it s2 q2 => thn q2 fun acc s3 q3 => thn q3 fun cenv s4 q4 => codeAny_mono q4 fun r s' q => ?_)) (fun _ s' hq => wpAny_pure (wpAny_pure hq)) fun _ _ e => e)
  obtain ⟨D', vs, H', e1, e2, I', f, G, q⟩ := q
  subst e1 e2
  show wpAny _ X.A (assign (.Name y py) X.env (.ref D')) _ _ _
  -- the block's names stay through the store
  obtain ⟨m, o, es, ep, ho, hd, hk⟩ := G.ns
  have pin : Inv X ((cenv.locals, o) :: pins) σ (upd H' D' (.lst vs)) s' := I'.pins_of fun p hp => by
    rcases List.mem_cons.mp hp with z | z
    · subst z
      exact ⟨ho, G.free, G.ne, G.nofs, fun v z => by rw [hd] at z; cases z⟩
    · exact I'.pin p (List.mem_append_right _ z)
  refine wpAny_assign_Name (store_ok (v := V.ref D') pin hN hi' hy (show RelV (.ref D') (.ref D') from rfl) (fun s2 I2 => ?_) hf)
  have I3 : Inv X pins (σ.set i (some (.ref D'))) (upd H' D' (.lst vs)) s2 := I2.pins_of fun p hp => I2.pin p (List.mem_append_right _ (List.mem_cons_of_mem _ hp))
  have e2 := I2.pin (cenv.locals, o) (List.mem_append_right _ List.mem_cons_self)
  have G2 : Gone X pins (upd H' D' (.lst vs)) s2 cenv.locals := ⟨⟨m, o, es, ep, e2.1, hd, hk⟩, G.free, G.ne, G.ab, G.cells, G.pins, G.nofs⟩
  exact ⟨m, ⟨o, es, ep, e2.1, hd, hk⟩, fun h' hsb => ⟨_, _, G2.turned I3 hsb, q D' f⟩⟩
end
end L2

end
section
set_option Elab.async false
set_option linter.all false
set_option maxRecDepth 100000
set_option maxHeartbeats 4000000
namespace L2
open PySem PySem.Spec PyProof.Rows

/-! ### iterators within iterators -/
/-- an iterator at a over what stands in dep: at k it hands out val k -/
structure SubIt (P : Program) (w : World) (A : Around) (a : Addr) (dep : List Addr) (ok : Nat → Heap → Prop) (val : Nat → Option Value) : Prop where
  mem : a ∈ dep
  obj : ∀ k h, ok k h → ∃ o, h.get? a = some o ∧ (∀ v, o.data ≠ .cell v) ∧ o.cls ≠ .type "zip" ∧ o.cls ≠ .type "enumerate" ∧ o.cls ≠ .type "tuple"
  keep : ∀ k h h', ok k h → (∀ b ∈ dep, ∀ o, h.get? b = some o → h'.get? b = some o) → ok k h'
  item : ∀ k x (s : Shared) (Q : Value → Shared → Prop) (E : Value → Shared → Prop), ok k s.heap → val k = some x → (∀ h', ok (k + 1) h' → Heap.SameBut a s.heap h' → Q x { s with heap := h' }) →
    wpAny (model P w) A (Builtin.SmallTypes.nextOf (.ref a)) Q E s
  stop : ∀ k (s : Shared) (Q : Value → Shared → Prop) (E : Value → Shared → Prop), ok k s.heap → val k = none →
    (∀ h' e, Heap.ExtBut a s.heap h' → (∃ o, h'.get? e = some o ∧ o.cls = .type "StopIteration") → E (.ref e) { s with heap := h' }) → wpAny (model P w) A (Builtin.SmallTypes.nextOf (.ref a)) Q E s

section
variable {P : Program} {w : World} {A : Around}
theorem subList {a l : Addr} {xs : Array Value} (hh : A.handled = none) (ne : l ≠ a) : SubIt P w A a [a, l] (fun k h => h.IsListIter a l k ∧ h.IsList l xs) (fun k => xs[k]?) where
  mem := List.mem_cons_self
  obj := fun k h z => by
    obtain ⟨⟨o, e, c, d⟩, _⟩ := z
    exact ⟨o, e, fun v q => (by rw [d] at q; cases q), (by rw [c]; decide), (by rw [c]; decide), (by rw [c]; decide)⟩
  keep := fun k h h' z q => ⟨z.1.at fun o e => q a (by simp) o e, z.2.at fun o e => q l (by simp) o e⟩
  item := fun k x s Q E z e q => wpAny_nextOf_list_item z.1 z.2 e fun h' h1 h2 => q h' ⟨h1, z.2.extBut h2.extBut ne⟩ h2
  stop := fun k s Q E z e q => wpAny_nextOf_list_end hh z.1 z.2 e q

theorem tupIter_at {h h' : Heap} {a l : Addr} {k : Nat} (x : h.IsTupleIter a l k) (e : ∀ o, h.get? a = some o → h'.get? a = some o) : h'.IsTupleIter a l k := let ⟨o, ho, r⟩ := x; ⟨o, e _ ho, r⟩
theorem tup_at {h h' : Heap} {a : Addr} {xs : Array Value} (x : h.IsTuple a xs) (e : ∀ o, h.get? a = some o → h'.get? a = some o) : h'.IsTuple a xs := let ⟨o, ho, r⟩ := x; ⟨o, e _ ho, r⟩

theorem subTup {a l : Addr} {xs : Array Value} (hh : A.handled = none) (ne : l ≠ a) : SubIt P w A a [a, l] (fun k h => h.IsTupleIter a l k ∧ h.IsTuple l xs) (fun k => xs[k]?) where
  mem := List.mem_cons_self
  obj := fun k h z => by
    obtain ⟨⟨o, e, c, d⟩, _⟩ := z
    exact ⟨o, e, fun v q => (by rw [d] at q; cases q), (by rw [c]; decide), (by rw [c]; decide), (by rw [c]; decide)⟩
  keep := fun k h h' z q => ⟨tupIter_at z.1 fun o e => q a (by simp) o e, tup_at z.2 fun o e => q l (by simp) o e⟩
  item := fun k x s Q E z e q => by
    obtain ⟨o, ho, hc, hd⟩ := id z.1
    obtain ⟨ol, hol, _, nl, hdl⟩ := id z.2
    unfold Builtin.SmallTypes.nextOf
    refine wpAny_bind (wpAny_callSpecial?_slot (name := Str.ofString "__next__") z.1.typeIs F.slot_tuple_iterator_next (wpAny_call_entry F.slot_tuple_iterator_next z.1.typeIs F.entry_tuple_iterator_next ?_ (F.args_tuple_iterator_next_1 _)))
    show wpAny _ _ (field (.ref a) 0 >>= _) _ _ s; refine wpAny_bind (wpAny_field ho hd (x := .ref l) rfl ?_)
    show wpAny _ _ (if (Value.ref l == Value.none) = true then _ else _) _ _ s; rw [if_neg (show ¬ ((Value.ref l == Value.none) = true) from Bool.false_ne_true)]
    show wpAny _ _ (field (.ref a) 1 >>= _) _ _ s; refine wpAny_bind (wpAny_field ho hd (x := .int k 0) rfl ?_)
    show wpAny _ _ (seqItems? (.ref l) >>= _) _ _ s; refine wpAny_bind (wpAny_seqItems hol hdl ?_)
    simp only [Int.toNat_natCast, e]
    refine wpAny_bind (wpAny_setField ho hd (by simp) (wpAny_pure ⟨x, rfl, wpAny_pure (q _ ⟨?_, z.2.extBut (Heap.SameBut.update ..).extBut ne⟩ (Heap.SameBut.update ..))⟩))
    exact ⟨_, Heap.get?_update_self _ ho (Obj.isFreed_of_fields (Obj.data_mapFields hd _)), (Obj.cls_mapFields ..).trans hc, by rw [Obj.data_mapFields hd]; simp [rawInt]⟩
  stop := fun k s Q E z e q => by
    obtain ⟨o, ho, hc, hd⟩ := id z.1
    obtain ⟨ol, hol, _, nl, hdl⟩ := id z.2
    unfold Builtin.SmallTypes.nextOf
    refine wpAny_bind (wpAny_callSpecial?_slot (name := Str.ofString "__next__") z.1.typeIs F.slot_tuple_iterator_next (wpAny_call_entry F.slot_tuple_iterator_next z.1.typeIs F.entry_tuple_iterator_next ?_ (F.args_tuple_iterator_next_1 _)))
    show wpAny _ _ (field (.ref a) 0 >>= _) _ _ s; refine wpAny_bind (wpAny_field ho hd (x := .ref l) rfl ?_)
    show wpAny _ _ (if (Value.ref l == Value.none) = true then _ else _) _ _ s; rw [if_neg (show ¬ ((Value.ref l == Value.none) = true) from Bool.false_ne_true)]
    show wpAny _ _ (field (.ref a) 1 >>= _) _ _ s; refine wpAny_bind (wpAny_field ho hd (x := .int k 0) rfl ?_)
    show wpAny _ _ (seqItems? (.ref l) >>= _) _ _ s; refine wpAny_bind (wpAny_seqItems hol hdl ?_)
    simp only [Int.toNat_natCast, e]
    refine wpAny_bind (wpAny_rule (wpAny_bind (wpAny_setField ho hd (by simp) ?_)))
    show wpAny _ _ (newExc (.type "StopIteration") [] >>= _) _ _ _; refine wpAny_bind ?_
    simp only [newExc, newTuple]
    refine wpAny_bind (wpAny_newObj_type ?_ (by size_fits))
    refine wpAny_bind (m := firstArgMember _ _) (wpAny_of_eq (a := Value.none) (by first | rfl | (simp only [firstArgMember]; rfl)) (wpAny_newObj_type ?_ (by size_fits)))
    simp only [raiseNew]
    refine wpAny_bind (wpAny_handled ?_)
    first | rw [show A.in1.handled = none from hh] | rw [hh]
    exact wpAny_bind (wpAny_pure (wpAny_throw (q _ _ (((Heap.SameBut.update ..).extBut.push _).push _) ⟨_, Heap.get?_push_size _ rfl, rfl⟩)))
end

/-- a zip of two -/
structure ZAp (z TI TO : Addr) (d1 d2 : List Addr) (i1 i2 : Addr) : Prop where
  a1 : TI ≠ z
  a2 : TO ≠ z
  a3 : TI ≠ TO
  b1 : z ∉ d1
  b2 : z ∉ d2
  b3 : TO ∉ d1
  b4 : TO ∉ d2
  b5 : TI ≠ i1
  b6 : TI ≠ i2
  c1 : i1 ∉ d2
  c2 : i2 ∉ d1

end L2

end
section
set_option Elab.async false
set_option linter.all false
set_option maxRecDepth 100000
set_option maxHeartbeats 4000000
namespace L2
open PySem PySem.Spec PyProof.Rows

/-! ### a list or a tuple (true: a tuple) -/
noncomputable def SqB (K : PySem.W.Frag) : Bool → Hp → Addr → List V → Prop
  | true => fun H a xs => SqT K H a xs
  | false => fun H a xs => SqL K H a xs
noncomputable def isSeqB : Bool → Heap → Addr → Array Value → Prop
  | true => fun h a xs => h.IsTuple a xs
  | false => fun h a xs => h.IsList a xs
noncomputable def isItB : Bool → Heap → Addr → Addr → Nat → Prop
  | true => fun h a l k => h.IsTupleIter a l k
  | false => fun h a l k => h.IsListIter a l k
noncomputable def itObj (b : Bool) (l : Addr) : Obj := { cls := .type (if b then "tuple_iterator" else "list_iterator"), data := .fields #[.ref l, .int 0 0] }
theorem isItB_new (b : Bool) (h : Heap) (l : Addr) (a : Addr) (e : h.get? a = some (itObj b l)) : isItB b h a l 0 := by cases b <;> exact ⟨_, e, rfl, rfl⟩
theorem isItB_at {b : Bool} {h h' : Heap} {a l : Addr} {k : Nat} (x : isItB b h a l k) (e : ∀ o, h.get? a = some o → h'.get? a = some o) : isItB b h' a l k := by
  cases b
  · exact Heap.IsListIter.at x e
  · exact tupIter_at x e
theorem subB {P : Program} {w : World} {A : Around} (b : Bool) {a l : Addr} {xs : Array Value} (hh : A.handled = none) (ne : l ≠ a) : SubIt P w A a [a, l] (fun k h => isItB b h a l k ∧ isSeqB b h l xs) (fun k => xs[k]?) := by
  cases b
  · exact subList hh ne
  · exact subTup hh ne
theorem isItB_obj {b : Bool} {h : Heap} {a l : Addr} {k : Nat} (x : isItB b h a l k) : ∃ o, h.get? a = some o ∧ (∀ v, o.data ≠ .cell v) ∧ (o.cls = .type "tuple_iterator" ∨ o.cls = .type "list_iterator") := by
  cases b <;> obtain ⟨o, e, c, d⟩ := x
  · exact ⟨o, e, fun v q => (by rw [d] at q; cases q), .inr c⟩
  · exact ⟨o, e, fun v q => (by rw [d] at q; cases q), .inl c⟩
theorem pyIter_B {P : Program} {w : World} {A : Around} {E : Value → Shared → Prop} {s : Shared} {b : Bool} {t : Addr} {items : Array Value} {Q : Value → Shared → Prop} (ht : isSeqB b s.heap t items)
    (hQ : Q (.ref s.heap.objs.size) { s with heap := s.heap.push (itObj b t) }) : wpAny (model P w) A (pyIter (.ref t)) Q E s := by
  cases b
  · exact wpAny_pyIter_list ht hQ
  · exact wpAny_pyIter_tuple ht hQ

section
variable {X : Cx} {pins : List (Addr × Obj)} {σ : St} {H : Hp} {s : Shared}
theorem Inv.seqB {b : Bool} {a : Addr} {xs : List V} (I : Inv X pins σ H s) (h : SqB X.K b H a xs) : ∃ its : List Value, Vals xs its ∧ isSeqB b s.heap a its.toArray ∧ xs.length ≤ sizeLine := by
  cases b
  · obtain ⟨its, r, p, z⟩ := I.list h; exact ⟨its, r, p.isList, z⟩
  · obtain ⟨its, r, p, z⟩ := I.tuple h; exact ⟨its, r, p, z⟩
theorem Inv.seqB_inj {b : Bool} {a : Addr} {xs ys : List V} (I : Inv X pins σ H s) (h : SqB X.K b H a xs) (h' : SqB X.K b H a ys) : xs = ys := by
  cases b
  · exact I.list_inj h h'
  · exact I.tuple_inj h h'

/-- the records at fp have turned, and a tuple has been laid -/
theorem Inv.turnedT {fp : List Addr} {h' : Heap} {t' : Nat} {T : Addr} {xs : List V} {its : Array Value} (I : Inv X pins σ H s) (hf : ∀ b ∈ fp, FpOk X pins H b) (k : ∀ b o, b ∉ fp → s.heap.get? b = some o → h'.get? b = some o)
    (hp : s.heap.objs.size ≤ T) (z : xs.length ≤ sizeLine) (r : Vals xs its.toList) (new : h'.IsTuple T its) : Inv X pins σ (upd H T (.tup xs)) { s with heap := h', toks := t' } := by
  have fT : H T = none := I.hok.fresh hp
  have nT : ∀ b o, s.heap.get? b = some o → b ≠ T := fun b o e q => by
    have l1 : s.heap.objs.size ≥ Nat.succ b := Heap.lt_size e
    have l2 : @Eq Nat b T := q
    lia
  have nfp : ∀ b u, H b = some u → b ∉ fp := fun b u e q => by rw [(hf b q).1] at e; cases e
  refine I.step (g' := s.gens) (d' := s.drawn) (ch := fp) (fun b hb => ⟨(hf b hb).2.2.2.1, (hf b hb).2.1, (hf b hb).2.2.2.2.1, (hf b hb).2.2.2.2.2⟩) (fun b o _ _ hc e _ => k b o hc e) (fun b o _ _ hc e _ => ⟨o.slots, k b o hc e⟩)
    (fun b o _ e n => by rw [upd_ne (nT b o e)]; exact n) (fun b o hc e => ⟨o, k b o hc e⟩) (fun b ys e => by rw [upd_ne (ne_of_none e fT)]; exact e) (fun b o u e => by rw [upd_ne (ne_of_none e fT)]; exact e)
    (fun b ps e => ⟨#[], by rw [upd_ne (ne_of_none e fT), e]; simp⟩) (fun m hm => ?_) (fun b u e => ?_) I.bare
  · obtain ⟨o, es, ep, ho, q⟩ := hm
    exact ⟨o, es, ep, k _ o (fun hb => (hf _ hb).2.1 rfl) ho, q⟩
  · by_cases hb : b = T
    · subst hb
      rw [upd_same] at e; cases e
      have q : IsTup h' b its := new
      exact ⟨z, its.toList, r, by simpa using q⟩
    · rw [upd_ne hb] at e
      refine (I.hok b u e).stay (fun c v hc q => k c v ?_ q) (fun c q => ?_) fun c ys q => ?_
      · rcases hc with hc | hc
        · rw [hc]; exact nfp b u e
        · exact nfp c _ hc
      · rw [upd_ne (ne_of_none q fT)]; exact q
      · rw [upd_ne (ne_of_none q fT)]; exact q
/-- the records at fp have turned -/
theorem Inv.turnedL {fp : List Addr} {h' : Heap} {t' : Nat} (I : Inv X pins σ H s) (hf : ∀ b ∈ fp, FpOk X pins H b) (k : ∀ b o, b ∉ fp → s.heap.get? b = some o → h'.get? b = some o) : Inv X pins σ H { s with heap := h', toks := t' } := by
  have nfp : ∀ b u, H b = some u → b ∉ fp := fun b u e q => by rw [(hf b q).1] at e; cases e
  refine I.step (g' := s.gens) (d' := s.drawn) (ch := fp) (fun b hb => ⟨(hf b hb).2.2.2.1, (hf b hb).2.1, (hf b hb).2.2.2.2.1, (hf b hb).2.2.2.2.2⟩) (fun b o _ _ hc e _ => k b o hc e) (fun b o _ _ hc e _ => ⟨o.slots, k b o hc e⟩)
    (fun b o _ e n => n) (fun b o hc e => ⟨o, k b o hc e⟩) (fun b ys e => e) (fun b o u e => e) (fun b ps e => ⟨#[], by rw [e]; simp⟩) (fun m hm => ?_) (fun b u e => ?_) I.bare
  · obtain ⟨o, es, ep, ho, q⟩ := hm
    exact ⟨o, es, ep, k _ o (fun hb => (hf _ hb).2.1 rfl) ho, q⟩
  · refine (I.hok b u e).stay (fun c v hc q => k c v ?_ q) (fun c q => q) fun c ys q => q
    rcases hc with hc | hc
    · rw [hc]; exact nfp b u e
    · exact nfp c _ hc
end

/-! ### zip of two lists or tuples, walked by a tuple of names -/
/-- the state of a zip -/
structure ZSt (b1 b2 : Bool) (z TI TO i1 i2 l1 l2 : Addr) (k : Nat) (h : Heap) : Prop where
  zip : IsZip h z TI TO .none
  ti : IsPair h TI (.ref i1) (.ref i2)
  to : Ex2 fun a b => IsPair h TO a b
  it1 : isItB b1 h i1 l1 k
  it2 : isItB b2 h i2 l2 k

theorem cls_ne {h : Heap} {a b : Addr} {o u : Obj} {x y : String} (e : h.get? a = some o) (e' : h.get? b = some u) (ca : o.cls = .type x) (cb : u.cls = .type y) (n : x ≠ y := by decide) : a ≠ b := fun q => by
  subst q; rw [e] at e'; cases e'; rw [ca] at cb; injection cb with cb; exact n cb
theorem Inv.sq_ne {X : Cx} {pins : List (Addr × Obj)} {σ : St} {H : Hp} {s : Shared} {b : Bool} {l c : Addr} {xs : List V} (I : Inv X pins σ H s) (h : SqB X.K b H l xs) (f : FpOk X pins H c) : l ≠ c := by
  have key : (∃ u, H l = some u) ∨ ∃ o, X.K.lookup l = some o := by
    cases b
    · rcases h with (h | ⟨o, h⟩) | ⟨o, _, _, h, _⟩
      · exact .inl ⟨_, h⟩
      · exact .inl ⟨_, h⟩
      · exact .inr ⟨o, h⟩
    · rcases h with (h | ⟨o, h⟩) | ⟨o, _, _, h, _⟩
      · exact .inl ⟨_, h⟩
      · exact .inl ⟨_, h⟩
      · exact .inr ⟨o, h⟩
  intro q
  subst q
  rcases key with ⟨u, e⟩ | ⟨o, e⟩
  · rw [f.1] at e; cases e
  · have eb := I.ok.mod.kin l o e
    rcases f.2.2.2.1 with z | z
    · exact I.ok.noex l o eb z
    · have l1 : X.base.objs.size ≥ Nat.succ l := Heap.lt_size eb
      have l2 : X.base.objs.size ≤ X.s₀.heap.objs.size := I.ok.bsz
      have l3 : X.s₀.heap.objs.size ≤ l := z
      lia


/-! making a zip -/
end L2

end
section
set_option Elab.async false
set_option linter.all false
set_option maxRecDepth 100000
set_option maxHeartbeats 4000000
namespace L2
open PySem PySem.Spec PyProof.Rows

end L2

end
section
set_option Elab.async false
set_option linter.all false
set_option maxRecDepth 100000
set_option maxHeartbeats 4000000
namespace L2
open PySem PySem.Spec PyProof.Rows

/-! ### enumerate of a list or a tuple, walked by a tuple of names -/
noncomputable def Ite (K : PySem.W.Frag) (b : Bool) (l : Addr) : It :=
  ⟨fun i H => Ex2 fun xs x => SqB K b H l xs ∧ xs[i]? = some x,
   fun i H v H' => Ex2 fun T x => v = .ref T ∧ H T = none ∧ H' = upd H T (.tup [.int i, x]) ∧ (∀ xs, SqB K b H l xs → xs[i]? = some x),
   fun i H => ∃ xs, SqB K b H l xs ∧ xs.length ≤ i⟩
theorem drawsB {P : Program} {w : World} {A : Around} (b : Bool) {a l : Addr} {xs : Array Value} (hh : A.handled = none) (ne : l ≠ a) : Draws P w A a [a, l] xs.size (fun i v => xs[i]? = some v) (fun k h => isItB b h a l k ∧ isSeqB b h l xs) where
  live := fun k h z => let ⟨o, e, _⟩ := (subB (P := P) (w := w) b hh ne).obj k h z; ⟨o, e⟩
  frame := fun k h h' z q => (subB (P := P) (w := w) b hh ne).keep k h h' z q
  item := fun k s Q E hk z q => by
    have hx : xs[k]? = some xs[k] := Array.getElem?_eq_getElem hk
    exact (subB (P := P) (w := w) b hh ne).item k xs[k] s Q E z hx fun h' a1 a2 => q xs[k] h' s.toks hx a1 a2
  done := fun s Q E z q => (subB (P := P) (w := w) b hh ne).stop xs.size s Q E z (Array.getElem?_eq_none (Nat.le_refl _)) q

structure ESt (b : Bool) (e it l : Addr) (k : Nat) (h : Heap) : Prop where
  en : ∃ old, IsEnum h e it k old
  it : isItB b h it l k

theorem turn_enum {P : Program} {w : World} {K : PySem.W.Frag} {elts : List Expr} {kk : Nat} {tpos : Pos} (b : Bool) (e it l : Addr) :
    Turn P w K (.Tuple elts kk tpos) (Ite K b l) [e, it] e (ESt b e it l) where
  mem := List.mem_cons_self
  obj := fun k h S c hc => by
    obtain ⟨old, he⟩ := S.en
    obtain ⟨o1, e1, d1, _⟩ := isItB_obj S.it
    simp only [List.mem_cons, List.not_mem_nil, or_false] at hc
    rcases hc with rfl | rfl
    · exact ⟨_, he, fun v q => by cases q⟩
    · exact ⟨o1, e1, d1⟩
  keep := fun k h h' S q => by
    obtain ⟨old, he⟩ := S.en
    exact ⟨⟨old, q e (by simp) _ he⟩, isItB_at S.it fun o x => q it (by simp) o x⟩
  item := by
    intro X hP hw hK hc i pins s σ H E I hf S hg
    subst hP hw hK
    obtain ⟨xs, x, h1, ex⟩ := hg
    obtain ⟨us, r1, p1, z1⟩ := I.seqB h1
    obtain ⟨u, eu, ru⟩ := r1.get ex
    obtain ⟨old, he⟩ := S.en
    obtain ⟨o1, e1, _, c1⟩ := isItB_obj S.it
    have hh : X.A.handled = none := I.ok.hd hc
    have nl : ∀ c ∈ [e, it], l ≠ c := fun c hc => I.sq_ne h1 (hf c hc)
    have ei : e ≠ it := by rcases c1 with c | c <;> exact cls_ne he e1 rfl c
    have ilt : i < us.toArray.size := by
      have := (List.getElem?_eq_some_iff.mp eu).1
      simpa using this
    refine wpAny_pyNext_enum_itemD (drawsB b (A := X.A.in1) hh (nl it (by simp))) he ⟨S.it, p1⟩ ilt ei (by simp only [List.mem_cons, List.not_mem_nil, or_false, not_or]; exact ⟨ei, Ne.symm (nl e (by simp))⟩) fun y g tk hy a1 a2 a3 a4 a5 => ?_
    have ey : y = u := by
      have q1 : us[i]? = some y := by simpa using hy
      rw [eu] at q1; cases q1; rfl
    subst ey
    refine ⟨_, rfl, wpAny_letOwnedTupleGo_enum (s := { s with heap := g, toks := tk + 1 }) a1 fun g' he' t => ?_⟩
    have lt : ∀ {c : Addr} {o : Obj}, s.heap.get? c = some o → s.heap.objs.size ≠ c := fun q => Nat.ne_of_gt (Heap.lt_size q)
    have k' : ∀ c o, c ∉ [e, it] → s.heap.get? c = some o → g'.get? c = some o := fun c o hc q => by
      simp only [List.mem_cons, List.not_mem_nil, or_false, not_or] at hc
      exact t.extBut c o hc.1 (a5 c o hc.1 hc.2 q)
    have hS' : ESt b e it l (i + 1) g' := ⟨⟨_, by simpa using he'⟩, isItB_at a2.1 fun o q => t.extBut _ _ (Ne.symm ei) q⟩
    have fT : H s.heap.objs.size = none := I.hok.fresh (Nat.le_refl _)
    have J : Inv X pins σ (upd H s.heap.objs.size (.tup [.int i, x])) { s with heap := g', toks := tk + 1 } :=
      I.turnedT (t' := tk + 1) (fp := [e, it]) hf k' (Nat.le_refl _) (by show 2 ≤ sizeLine; decide) (its := #[.int i tk, y]) (.cons ⟨_, rfl⟩ (.cons ru .nil)) ⟨_, t.extBut _ _ (lt he) a3, rfl, _, rfl⟩
    refine ⟨.ref s.heap.objs.size, upd H s.heap.objs.size (.tup [.int i, x]), J, rfl, ⟨_, x, rfl, fT, rfl, fun xs' hx' => by rw [I.seqB_inj hx' h1]; exact ex⟩, hS', fun c hc => ?_⟩
    have fobj : ∃ o, s.heap.get? c = some o := by
      simp only [List.mem_cons, List.not_mem_nil, or_false] at hc
      rcases hc with rfl | rfl
      · exact ⟨_, he⟩
      · exact ⟨_, e1⟩
    obtain ⟨o, eo⟩ := fobj
    rw [upd_ne (Ne.symm (lt eo))]
    exact (hf c hc).1
  done := by
    intro X hP hw hK hc i pins s σ H E I hf S hg
    subst hP hw hK
    obtain ⟨xs, h1, le⟩ := hg
    obtain ⟨us, r1, p1, z1⟩ := I.seqB h1
    obtain ⟨old, he⟩ := S.en
    have hh : X.A.handled = none := I.ok.hd hc
    have nl : ∀ c ∈ [e, it], l ≠ c := fun c hc => I.sq_ne h1 (hf c hc)
    have D := subB (P := X.prog) (w := X.w) b (A := X.A.in1) (xs := us.toArray) hh (nl it (by simp))
    have hT : s.TypeIs (.ref e) "enumerate" := ⟨_, he, rfl⟩
    unfold pyNext
    refine wpAny_bind (wpAny_attempt (wpAny_callSpecial?_slot (name := Str.ofString "__next__") hT F.slot_enumerate_next (wpAny_call_entry F.slot_enumerate_next hT F.entry_enumerate_next ?_ (F.args_enumerate_next_1 _))))
    show wpAny _ _ (field (.ref e) 2 >>= _) _ _ s; refine wpAny_bind (wpAny_field he rfl (x := .ref it) rfl ?_)
    refine wpAny_bind (D.stop i _ _ _ ⟨S.it, p1⟩ (by have := r1.length; simp; lia) fun g x t hq => ?_)
    obtain ⟨o, ho, hce⟩ := hq
    refine wpAny_bind (wpAny_isInstance (T := "StopIteration") (b := true) ⟨o, ho, hce⟩ isSubtype_stop (wpAny_pure ⟨rfl, ?_⟩))
    refine I.turnedL (t' := s.toks) (fp := [e, it]) hf fun c o hc q => ?_
    simp only [List.mem_cons, List.not_mem_nil, or_false, not_or] at hc
    exact t c o hc.2 q
  self := fun A i s Q E S h => let ⟨_, he⟩ := S.en; wpAny_pyIter_enum he h

theorem meets_enumB (b : Bool) (l : Addr) (xs : Array Value) (n : Nat) (dct : Option Addr) (sl : Array (Option Value)) :
    Meets (Builtin.«enumerate.__new__» ⟨[.type "enumerate", .ref l], []⟩) (fun _ R s => s.heap.get? l = some { cls := .type (if b then "tuple" else "list"), dict := dct, data := .seq xs n, slots := sl } ∧ R (.ok (.ret (.ref (s.heap.push (itObj b l)).objs.size))) { s with heap := (s.heap.push (itObj b l)).push { cls := .type "enumerate", data := .fields #[.none, .bool false, .ref s.heap.objs.size, rawInt 0, .none, .none] } }) :=
  .of_wp fun prog w A R s h => by
    obtain ⟨hp, g, d, tk, os⟩ := s; obtain ⟨hl, h⟩ := h
    have hsub := sub_enumerate
    have hL : isSeqB b (Shared.heap ⟨hp, g, d, tk, os⟩) l xs := by cases b <;> exact ⟨_, hl, rfl, n, rfl⟩
    wp_walk using wpAny_loadPart' hl; (refine wpAny_stack_any fun st => wpAny_pure ?_); split
    · rename_i c _ _ _ _ _; cases (c == Value.type "enumerate") <;> (wp_walk using wpAny_loadPart' hl, pyIter_B hL; exact ⟨_, rfl, h⟩)
    · wp_walk using wpAny_loadPart' hl, pyIter_B hL; exact ⟨_, rfl, h⟩
theorem isSeqB_data {b : Bool} {h : Heap} {l : Addr} {xs : Array Value} (x : isSeqB b h l xs) : Ex3 fun n dct sl => h.get? l = some { cls := .type (if b then "tuple" else "list"), dict := dct, data := .seq xs n, slots := sl } := by
  cases b <;> obtain ⟨⟨c, dct, dt, sl⟩, e, hc, n, hd⟩ := x
  · replace hc : c = .type "list" := hc
    replace hd : dt = .seq xs n := hd
    subst hc hd; exact ⟨n, dct, sl, e⟩
  · replace hc : c = .type "tuple" := hc
    replace hd : dt = .seq xs n := hd
    subst hc hd; exact ⟨n, dct, sl, e⟩

section
variable {X : Cx}
noncomputable def iEnum (K : PySem.W.Frag) (ta : TA) : TI := fun σ H R => ta σ H fun vs H1 => Ex2 fun b a => vs = [.ref a] ∧ (∃ xs, SqB K b H1 a xs) ∧ R (Ite K b a) H1
theorem enum_it {pins : List (Addr × Obj)} {σ : St} {H : Hp} {s : Shared} {R : It → Hp → Prop} {elts : List Expr} {kk : Nat} {tpos : Pos} {b : Bool} {l : Addr} {xs : List V} (I : Inv X pins σ H s) (h1 : SqB X.K b H l xs) (q : R (Ite X.K b l) H) :
    wpAny (model X.prog X.w) X.A (call (.type "enumerate") [.ref l]) (fun v s1 => wpAny (model X.prog X.w) X.A (pyIter v) (PIE X pins σ (.Tuple elts kk tpos) R) X.xe s1) X.xe s := by
  obtain ⟨us, r1, p1, z1⟩ := I.seqB h1
  obtain ⟨m, dct, sl, hl⟩ := isSeqB_data p1
  refine callType_new F.called_enumerate (by decide) (F.typeCall_enumerate_1 _) (F.newCall_enumerate_1 _) (fun obj => F.args_object_init_2 obj _) F.entry_enumerate_new (meets_enumB b l us.toArray m dct sl) ⟨hl, ?_⟩
  generalize hn : s.heap.objs.size = n
  have s1 : (s.heap.push (itObj b l)).objs.size = n + 1 := by rw [Heap.size_push, hn]
  generalize hG : (s.heap.push (itObj b l)).push { cls := .type "enumerate", data := .fields #[.none, .bool false, .ref n, rawInt 0, .none, .none] } = G
  have old : ∀ c o, s.heap.get? c = some o → G.get? c = some o := fun c o e => hG ▸ Heap.get?_push_of_some _ (Heap.get?_push_of_some _ e)
  have ge : IsEnum G (n + 1) n 0 .none := by
    have e : G.get? (s.heap.push (itObj b l)).objs.size = some { cls := .type "enumerate", data := .fields #[.none, .bool false, .ref n, rawInt 0, .none, .none] } := hG ▸ Heap.get?_push_size _ rfl
    rw [s1] at e; exact e
  have gi : G.get? n = some (itObj b l) := by
    have e : G.get? s.heap.objs.size = some (itObj b l) := hG ▸ Heap.get?_push_of_some _ (Heap.get?_push_size _ rfl)
    rw [hn] at e; exact e
  rw [s1]
  refine ⟨⟨_, ge, rfl⟩, wpAny_pyIter_enum ge ?_⟩
  have I1 : Inv X pins σ H { s with heap := G } := I.kept (t' := s.toks) old
  refine ⟨n + 1, [n + 1, n], _, _, H, rfl, I1, turn_enum b (n + 1) n l, ⟨⟨_, ge⟩, isItB_new _ _ _ _ gi⟩, fun c hc => ?_, q⟩
  have le : s.heap.objs.size ≤ c := by
    rw [hn]
    simp only [List.mem_cons, List.not_mem_nil, or_false] at hc
    show @LE.le Nat _ n c
    rcases hc with e | e <;> (have e' : @Eq Nat c _ := e; lia)
  exact I.fpOk le (I.hok.fresh le)
theorem pi_enum {a : Expr} {ta : TA} {p pos : Pos} {elts : List Expr} {kk : Nat} {tpos : Pos} (hg : Gl X "enumerate") (hm : X.mg "enumerate" = none) (ha : PA X [a] ta) (hs : starEach [a] X.env = [(false, eval a X.env)] := by rfl) :
    PI X (.Tuple elts kk tpos) (.Call (.Name "enumerate" p) [a] [] pos) (iEnum X.K ta) := by
  intro pins s σ H R I h
  refine Call_ (ld_blt I hg hm (u := .type "enumerate") boot_enumerate (PyProof.Rows.callWith_type1 (thn (ha pos pins s σ H _ I h) fun us s1 ⟨vs, H1, I1, r1, q1⟩ => ?_) hs rfl))
  obtain ⟨b, a, e, ⟨xs, h1⟩, q⟩ := q1
  subst e
  cases r1 with
  | cons r rr =>
    cases rr
    cases r
    exact enum_it I1 h1 q
end

/-! ### the forms one uses, for any iterator of known items -/
/-- n items while G holds; y i x H H': at i it hands out x and leaves H' -/
structure Seqs (J : It) (n : Nat) (G : Hp → Prop) (y : Nat → V → Hp → Hp → Prop) : Prop where
  go : ∀ i H, i < n → G H → J.go i H
  stop : ∀ H, G H → J.stop n H
  yld : ∀ i H x H', i < n → G H → J.yld i H x H' → y i x H H'
theorem seqs_list {K : PySem.W.Frag} {a : Addr} {xs : List V} : Seqs (Itl K a) xs.length (fun H => SqL K H a xs) (fun i x H H' => H' = H ∧ xs[i]? = some x) :=
  ⟨fun i H hi g => ⟨xs, xs[i], g, by simp [hi]⟩, fun H g => ⟨xs, g, Nat.le_refl _⟩, fun i H x H' hi g q => ⟨q.1, q.2 xs g⟩⟩
theorem seqs_tup {K : PySem.W.Frag} {a : Addr} {xs : List V} : Seqs (Itt K a) xs.length (fun H => SqT K H a xs) (fun i x H H' => H' = H ∧ xs[i]? = some x) :=
  ⟨fun i H hi g => ⟨xs, xs[i], g, by simp [hi]⟩, fun H g => ⟨xs, g, Nat.le_refl _⟩, fun i H x H' hi g q => ⟨q.1, q.2 xs g⟩⟩
theorem seqs_range {lo : Int} {n : Nat} : Seqs (Itr lo n) n (fun _ => True) (fun i x H H' => H' = H ∧ x = .int (lo + i)) :=
  ⟨fun i H hi _ => hi, fun H _ => Nat.le_refl _, fun i H x H' hi _ q => q⟩
theorem seqs_enum {K : PySem.W.Frag} {b : Bool} {l : Addr} {xs : List V} : Seqs (Ite K b l) xs.length (fun H => SqB K b H l xs)
    (fun i x H H' => Ex2 fun T u => x = .ref T ∧ xs[i]? = some u ∧ H T = none ∧ H' = upd H T (.tup [.int i, u])) :=
  ⟨fun i H hi g => ⟨xs, xs[i], g, by simp [hi]⟩, fun H g => ⟨xs, g, Nat.le_refl _⟩, fun i H x H' hi g ⟨T, u, e1, e2, e3, e4⟩ => ⟨T, u, e1, e4 xs g, e2, e3⟩⟩

theorem for_any {J : It} {n : Nat} {G : Hp → Prop} {y : Nat → V → Hp → Hp → Prop} (S : Seqs J n G y) {g : TG} {tb : TS} {D : Ends} {σ : St} {H : Hp} (Pv : Nat → St → Hp → Prop) (h0 : Pv 0 σ H) (hl : ∀ i σ H, i ≤ n → Pv i σ H → G H)
    (hs : ∀ i x σ H H', i < n → Pv i σ H → y i x H H' → g x σ H' fun σ2 H2 => tb { D with nx := Pv (i + 1), ct := Pv (i + 1), bk := D.nx } σ2 H2) (hd : ∀ σ H, Pv n σ H → D.nx σ H) :
    ∃ W : Nat → Nat → St → Hp → Prop, (∃ m, W 0 m σ H) ∧ ∀ i m σ H, W i m σ H →
      (J.stop i H ∧ D.nx σ H) ∨ (J.go i H ∧ ∃ N : St → Hp → Prop, (∀ σ' H', N σ' H' → ∃ m', m' < m ∧ W (i + 1) m' σ' H') ∧ ∀ x H', J.yld i H x H' → g x σ H' fun σ2 H2 => tb { D with nx := N, ct := N, bk := D.nx } σ2 H2) := by
  refine ⟨fun i m σ H => m = n - i ∧ i ≤ n ∧ Pv i σ H, ⟨n, by simp, Nat.zero_le _, h0⟩, ?_⟩
  rintro i m σ H ⟨rfl, hi, p⟩
  by_cases hlt : i < n
  · exact .inr ⟨S.go i H hlt (hl i σ H hi p), Pv (i + 1), fun σ' H' p' => ⟨n - (i + 1), by lia, rfl, hlt, p'⟩, fun x H' q => hs i x σ H H' hlt p (S.yld i H x H' hlt (hl i σ H hi p) q)⟩
  · have e : i = n := by lia
    subst e
    exact .inl ⟨S.stop H (hl _ σ H hi p), hd σ H p⟩
theorem comp_any {J : It} {n : Nat} {G : Hp → Prop} {y : Nat → V → Hp → Hp → Prop} (S : Seqs J n G y) {σc : St} {g : TG} {ti : TT} {te : TE} {H : Hp} {Fn : List V → Hp → Prop} (Pv : Nat → List V → Hp → Prop) (h0 : Pv 0 [] H) (hl : ∀ i acc H, i ≤ n → Pv i acc H → G H)
    (hz : ∀ i acc H, i < n → Pv i acc H → acc.length < sizeLine)
    (hs : ∀ i acc x H H', i < n → Pv i acc H → y i x H H' → g x σc H' fun σ2 H2 => ti σ2 H2 fun b H3 => if b = true then te σ2 H3 fun v H4 => Pv (i + 1) (acc ++ [v]) H4 else Pv (i + 1) acc H3)
    (hd : ∀ acc H, Pv n acc H → Fn acc H) :
    ∃ W : TComp, (∃ m, W 0 m [] H) ∧ ∀ i m acc H, W i m acc H →
      (J.stop i H ∧ Fn acc H) ∨
      (J.go i H ∧ acc.length < sizeLine ∧ ∃ N : List V → Hp → Prop, (∀ acc' H', N acc' H' → ∃ m', m' < m ∧ W (i + 1) m' acc' H') ∧ ∀ x H', J.yld i H x H' → g x σc H' fun σ2 H2 => ti σ2 H2 fun b H3 => if b = true then te σ2 H3 fun v H4 => N (acc ++ [v]) H4 else N acc H3) := by
  refine ⟨fun i m acc H => m = n - i ∧ i ≤ n ∧ Pv i acc H, ⟨n, by simp, Nat.zero_le _, h0⟩, ?_⟩
  rintro i m acc H ⟨rfl, hi, p⟩
  by_cases hlt : i < n
  · exact .inr ⟨S.go i H hlt (hl i acc H hi p), hz i acc H hlt p, Pv (i + 1), fun acc' H' p' => ⟨n - (i + 1), by lia, rfl, hlt, p'⟩, fun x H' q => hs i acc x H H' hlt p (S.yld i H x H' hlt (hl i acc H hi p) q)⟩
  · have e : i = n := by lia
    subst e
    exact .inl ⟨S.stop H (hl _ acc H hi p), hd acc H p⟩
end L2

end
section
set_option Elab.async false
set_option linter.all false
set_option maxRecDepth 100000
set_option maxHeartbeats 4000000
namespace L2
open PySem PySem.Spec PyProof.Rows
section
variable {X : Cx}

/-! ### // by any positive divisor below 2 ^ 64; products of large numbers -/
noncomputable def CDv (i j : Int) : Prop := 0 < j ∧ j < 2 ^ 64
theorem CDv.log {i j : Int} (h : CDv i j) : j.natAbs.log2 < 9000 := by
  obtain ⟨h1, h2⟩ := h
  have h0 : j.natAbs ≠ 0 := by lia
  have : j.natAbs < 2 ^ 64 := by lia
  exact Nat.lt_of_lt_of_le ((Nat.log2_lt h0).mpr this) (by decide)
theorem op_fdv : OpR X (binaryOp .FloorDiv) (rI CDv fun i j => .int (i / j)) := opI fun i j _ _ _ _ _ hc q => by
  have h1 : (0 : Int) < j := hc.1
  exact floordiv_int (by lia) (by rw [Int.fdiv_eq_ediv_of_nonneg i (by lia)]; exact q) (.inl (PyProof.noPylong_of_log2 hc.log))
noncomputable def CDvB (i j : Int) : Prop := 0 < j ∧ j < 2 ^ 1000
theorem CDvB.log {i j : Int} (h : CDvB i j) : j.natAbs.log2 < 9000 := by
  obtain ⟨h1, h2⟩ := h
  have h0 : j.natAbs ≠ 0 := by lia
  have : j.natAbs < 2 ^ 1000 := by lia
  exact Nat.lt_of_lt_of_le ((Nat.log2_lt h0).mpr this) (by decide)
theorem op_fdvB : OpR X (binaryOp .FloorDiv) (rI CDvB fun i j => .int (i / j)) := opI fun i j _ _ _ _ _ hc q => by
  have h1 : (0 : Int) < j := hc.1
  exact floordiv_int (by lia) (by rw [Int.fdiv_eq_ediv_of_nonneg i (by lia)]; exact q) (.inl (PyProof.noPylong_of_log2 hc.log))
theorem iop_fdv : OpR X (inplaceOp .FloorDiv) (rI CDv fun i j => .int (i / j)) := opI fun i j _ _ _ _ _ hc q => by
  have h1 : (0 : Int) < j := hc.1
  exact ifloordiv_int (by lia) (by rw [Int.fdiv_eq_ediv_of_nonneg i (by lia)]; exact q) (.inl (PyProof.noPylong_of_log2 hc.log))
theorem op_mulB : OpR X (binaryOp .Mult) (rI IntMulOk fun i j => .int (i * j)) := opI fun _ _ _ _ _ _ _ hc q => mul_int q hc

/-! ### a list against an empty one -/
noncomputable def rNeE (K : PySem.W.Frag) : R2 := fun x y H Q => Ex3 fun a b xs => x = .ref a ∧ y = .ref b ∧ SqL K H a xs ∧ SqL K H b [] ∧ Q (.bl (!xs.isEmpty)) H
theorem op_neE (hu : X.A.units < cLine) : OpR X (compareOp .NotEq) (rNeE X.K) := by
  intro pins s σ H x y v u Q I rx ry h
  obtain ⟨a, b, xs, rfl, rfl, ha, hb, q⟩ := h
  cases rx; cases ry
  obtain ⟨us, r1, p1, z1⟩ := I.list ha
  obtain ⟨vs, r2, p2, z2⟩ := I.list hb
  cases r2
  cases xs with
  | nil =>
    cases r1
    exact SeqAt.RcNeAt.lists (e := fun _ => true) p1.isList p2.isList rfl hu (fun j h1 _ => absurd h1 (by simp)) _ _ _ _ ⟨.bl false, H, I, rfl, q⟩
  | cons x xs =>
    cases r1
    exact SeqAt.RcNeAt.lists_lengths p1.isList p2.isList (by simp) hu _ _ _ _ ⟨.bl true, H, I, rfl, q⟩

/-! ### xs[::-1] of a list -/
noncomputable def tRev (K : PySem.W.Frag) (te : TE) : TE := fun σ H Q => te σ H fun x H1 => Ex2 fun a xs => x = .ref a ∧ SqL K H1 a xs ∧ ∀ p, H1 p = none → Q (.ref p) (upd H1 p (.lst xs.reverse))
theorem pe_rev {e : Expr} {te : TE} {p0 p1 p2 pos : Pos} {j} (he : PE X e te) : PE X (.Subscript e (.Slice none none (some (.UnaryOp .USub (.Constant (.int 1) j p0) p1)) p2) pos) (tRev X.K te) := by
  intro pins s σ H Q I h
  refine Subscript_ (thn (he pins s σ H _ I h) fun v s1 hq => ?_)
  obtain ⟨x, H1, I1, r1, q1⟩ := hq
  obtain ⟨a, xs, rfl, hx, q⟩ := q1
  cases r1
  refine wpAny_Slice ?_
  rw [evalPart_none]
  refine wpAny_pure ?_
  refine wpAny_pure ?_
  rw [evalPart_some]
  refine thn ((pe_un un_neg (pe_int (X := X))) pins s1 σ H1 (fun v H' => v = .int (-1) ∧ H' = H1) I1 ⟨1, rfl, rfl, rfl⟩) fun st s2 hq => ?_
  obtain ⟨v, H2, I2, r2, e1, e2⟩ := hq
  subst e1 e2
  obtain ⟨t, rfl⟩ := r2
  have I4 : Inv X pins σ H2 { s2 with heap := s2.heap.push { cls := .type "slice", data := .fields #[.none, .none, .int (-1) t] } } := I2.kept (t' := s2.toks) fun b ob q => Heap.get?_push_of_some _ q
  obtain ⟨its, r, ht, hz⟩ := I4.list hx
  have hlen := r.length
  show wpAny (model X.prog X.w) X.A (subscriptTail e _ (.ref a) (.ref s2.heap.objs.size)) (EP X pins σ Q) X.xe { s2 with heap := s2.heap.push { cls := .type "slice", data := .fields #[.none, .none, .int (-1) t] } }
  refine tail_any (ops := [.ref a, .ref s2.heap.objs.size]) ht.isList.typeIs slot_list_getitem.lookup ?_ (by with_unfolding_all rfl)
  refine wpAny_getItem_list_slice ht.isList (Heap.IsSliceOf.new ..) .none .none (.int (-1) t) (by simp) ?_ (by rw [List.size_toArray]; lia)
  rw [PySem.W.krv_pick]
  refine ⟨.ref _, _, I4.laid (t' := s2.toks) (o := .lst xs.reverse) (fun b ob q => Heap.get?_push_of_some _ q) (Nat.le_refl _) ?_, rfl, q _ (I4.hok.fresh (Nat.le_refl _))⟩
  exact ⟨by rw [List.length_reverse]; exact hz, its.reverse, 0, r.reverse, Heap.get?_push_size _ rfl⟩

/-! ### all, any of a list of truths -/
theorem vals_bools : ∀ {bs : List Bool} {us : List Value}, Vals (bs.map V.bl) us → us = bs.map Value.bool
  | [], _, .nil => rfl
  | b :: bs, _, .cons r t => by cases r; rw [vals_bools t]; rfl
theorem all_range (bs : List Bool) : (List.range bs.length).all (fun i => bs.getD i true) = bs.all id := by
  induction bs with
  | nil => rfl
  | cons b bs ih =>
    rw [List.length_cons, List.range_succ_eq_map, List.all_cons, List.all_cons, List.all_map]
    show ((b :: bs).getD 0 true && _) = _
    rw [List.getD_cons_zero]
    congr 1
noncomputable def rAllB (K : PySem.W.Frag) (f : List Bool → Bool) : List V → Hp → VK → Prop := fun xs H Q => Ex2 fun a bs => xs = [.ref a] ∧ SqL K H a (bs.map V.bl) ∧ Q (.bl (f bs)) H
theorem bools_truth {P : Program} {w : World} {A : Around} {bs : List Bool} : TruthOf P w A (fun i v => (bs.map Value.bool).toArray[i]? = some v) (fun i => bs.getD i true) := by
  intro i v s Q E hv q
  have hv' : bs[i]?.map Value.bool = some v := by simpa using hv
  cases e : bs[i]? with
  | none => rw [e] at hv'; cases hv'
  | some b =>
    rw [e] at hv'; cases hv'
    have e2 : bs.getD i true = b := by simp [List.getD, e]
    have q' : Q (bs.getD i true) s := q
    rw [e2] at q'
    exact wpAny_truthy_bool q'
theorem call_all (hc : X.calm = true) : CallR X (.builtin "all") (rAllB X.K fun bs => bs.all id) := by
  intro pins s σ H xs us Q I r h
  obtain ⟨a, bs, rfl, ha, q⟩ := h
  obtain ⟨u, rfl, rx⟩ := vals1 r
  cases rx
  obtain ⟨its, r1, p1, z1⟩ := I.list ha
  have e := vals_bools r1
  subst e
  refine call_all_walk (wpAny_pyIter_list p1.isList ?_)
  have hh : X.A.in1.handled = none := I.ok.hd hc
  have ne : a ≠ s.heap.objs.size := fun z => by obtain ⟨o, n, e, _⟩ := p1; have l : s.heap.objs.size ≥ Nat.succ a := Heap.lt_size e; have z' : @Eq Nat a s.heap.objs.size := z; lia
  refine ⟨_, _, _, _, _, _, _, rfl, Walks.list hh s.heap.objs.size a ne _, ⟨⟨_, Heap.get?_push_size _ rfl, rfl, rfl⟩, p1.isList.push _⟩, bools_truth, fun h' tk k => ?_⟩
  have I1 : Inv X pins σ H { s with heap := h', toks := tk } := I.kept fun b o e => k b o (by simp only [List.mem_singleton]; exact Nat.ne_of_lt (Heap.lt_size e)) (Heap.get?_push_of_some _ e)
  refine ⟨.bl _, H, I1, ?_, q⟩
  show Value.bool _ = Value.bool _
  congr 1
  have := all_range bs
  simpa using this

/-! ### isinstance of a known kind -/
/-- the name of a value's kind -/
noncomputable def kindV (K : PySem.W.Frag) (H : Hp) : V → String → Prop
  | .non, T => T = "NoneType"
  | .bl _, T => T = "bool"
  | .int _, T => T = "int"
  | .str _, T => T = "str"
  | .ref a, T => (T = "list" ∧ ∃ xs, SqL K H a xs) ∨ (T = "tuple" ∧ ∃ xs, SqT K H a xs)
  | _, _ => False
noncomputable def subK (T U : String) : Bool := T == U || (T == "bool" && U == "int")
noncomputable def rIsi (K : PySem.W.Frag) (U : String) : List V → Hp → VK → Prop := fun xs H Q => Ex2 fun x T => xs = [x, .ty U] ∧ kindV K H x T ∧ Q (.bl (subK T U)) H
theorem subK_ne {T U : String} (h : subK T U = false) : (Value.type T == Value.type U) = false := by
  have : T ≠ U := fun e => by subst e; simp [subK] at h
  simpa using this
theorem call_isi {U : String} (hty : typeOf (.type U) = pure (.type "type")) (hs : ∀ T ∈ ["NoneType", "bool", "int", "str", "list", "tuple"], isSubtype (.type T) (.type U) = pure (subK T U)) : CallR X (.builtin "isinstance") (rIsi X.K U) := by
  intro pins s σ H xs us Q I r h
  obtain ⟨x, T, rfl, hk, q⟩ := h
  obtain ⟨u, w', rfl, rx, ry⟩ := vals2 r
  cases ry
  have yes : ∀ {v : Value}, subK T U = true → s.TypeIs v T → T ∈ ["NoneType", "bool", "int", "str", "list", "tuple"] → wpAny (model X.prog X.w) X.A (call (.builtin "isinstance") [v, .type U]) (EP X pins σ Q) X.xe s := fun {v} hb ht hm =>
    call_isinstance_yes ht hty (by rw [hs T hm, hb]) ⟨.bl true, H, I, rfl, by rw [← hb]; exact q⟩
  have no : ∀ t, subK T U = false → EP X pins σ Q (.bool false) { s with toks := t } := fun t hb => ⟨.bl false, H, I.tok _, rfl, by rw [← hb]; exact q⟩
  cases x with
  | non =>
    cases rx; obtain rfl : T = "NoneType" := hk
    cases hb : subK "NoneType" U with
    | true => exact yes hb rfl (by simp)
    | false => exact call_isinstance (isinstance_false_none (subK_ne hb) hty (by rw [hs _ (by simp), hb])) (no _ hb)
  | bl b =>
    cases rx; obtain rfl : T = "bool" := hk
    cases hb : subK "bool" U with
    | true => exact yes hb rfl (by simp)
    | false => exact call_isinstance (isinstance_false_bool (subK_ne hb) hty (by rw [hs _ (by simp), hb])) (no _ hb)
  | int i =>
    obtain ⟨t, rfl⟩ := rx; obtain rfl : T = "int" := hk
    cases hb : subK "int" U with
    | true => exact yes hb (typeIs_int s i t) (by simp)
    | false => exact call_isinstance (isinstance_false_int (subK_ne hb) hty (by rw [hs _ (by simp), hb])) (no _ hb)
  | str i =>
    obtain ⟨t, rfl⟩ := rx; obtain rfl : T = "str" := hk
    cases hb : subK "str" U with
    | true => exact yes hb rfl (by simp)
    | false => exact call_isinstance (isinstance_false_str (subK_ne hb) hty (by rw [hs _ (by simp), hb])) (no _ hb)
  | ref a =>
    cases rx
    rcases hk with ⟨rfl, xs, hx⟩ | ⟨rfl, xs, hx⟩
    · obtain ⟨its, r1, p1, z1⟩ := I.list hx
      cases hb : subK "list" U with
      | true => exact yes hb p1.isList.typeIs (by simp)
      | false => exact call_isinstance (isinstance_false_list (subK_ne hb) hty (by rw [hs _ (by simp), hb])) ⟨let ⟨o, e, c, _⟩ := p1.isList; ⟨o, e, c⟩, no _ hb⟩
    · obtain ⟨its, r1, p1, z1⟩ := I.tuple hx
      cases hb : subK "tuple" U with
      | true => exact yes hb (show s.TypeIs (.ref a) "tuple" from let ⟨o, e, c, _⟩ := p1; ⟨o, e, c⟩) (by simp)
      | false => exact call_isinstance (isinstance_false_tuple (subK_ne hb) hty (by rw [hs _ (by simp), hb])) ⟨let ⟨o, e, c, _⟩ := p1; ⟨o, e, c⟩, no _ hb⟩
  | _ => exact False.elim hk
theorem isi_int : CallR X (.builtin "isinstance") (rIsi X.K "int") := call_isi (by rfl) (by intro T hT; simp only [List.mem_cons, List.not_mem_nil, or_false] at hT; rcases hT with rfl | rfl | rfl | rfl | rfl | rfl <;> (rw [isSubtype_type]; kernel_rfl))
theorem isi_bool : CallR X (.builtin "isinstance") (rIsi X.K "bool") := call_isi (by rfl) (by intro T hT; simp only [List.mem_cons, List.not_mem_nil, or_false] at hT; rcases hT with rfl | rfl | rfl | rfl | rfl | rfl <;> (rw [isSubtype_type]; kernel_rfl))
theorem isi_tuple : CallR X (.builtin "isinstance") (rIsi X.K "tuple") := call_isi (by rfl) (by intro T hT; simp only [List.mem_cons, List.not_mem_nil, or_false] at hT; rcases hT with rfl | rfl | rfl | rfl | rfl | rfl <;> (rw [isSubtype_type]; kernel_rfl))

/-! ### range(a, b, -1) -/
noncomputable def Itd (hi : Int) (n : Nat) : It := ⟨fun i _ => i < n, fun i H x H' => H' = H ∧ x = .int (hi - i), fun i _ => n ≤ i⟩
theorem turn_down {P : Program} {w : World} {K : PySem.W.Frag} {tg : Expr} (it : Addr) (hi : Int) (n : Nat) : Turn P w K tg (Itd hi n) [it] it (fun i h => IsRangeIter h it (hi + (i : Nat) * (-1)) ((n : Int) - (i : Nat)) (-1)) where
  mem := by simp
  obj := fun i h st b hb => by
    have e : b = it := by simpa using hb
    subst e
    exact ⟨_, st, fun v z => by have z' : Data.fields _ = Data.cell v := z; cases z'⟩
  keep := fun i h h' st k => k it (by simp) _ st
  item := by
    intro X hP hw hK hc i pins s σ H E I hf st hg
    subst hP hw hK
    obtain ⟨f0, f1, f2, f3, f4, f5⟩ := hf it (by simp)
    have W := Walks.range (prog := X.prog) (w := X.w) (I.ok.hd hc) it hi (-1) n
    refine W.item i s _ _ hg st fun v h' tk hv st' kk => ?_
    obtain ⟨t, rfl⟩ := hv
    have I1 : Inv X pins σ H { s with heap := h', toks := tk } := I.turned (fun b o hb e => kk b o (by simpa using hb) e) f0 f1 f3 f4 f5
    refine ⟨_, rfl, go_of (s := { s with heap := h', toks := tk }) (n := "range_iterator") st' rfl rfl (by decide) ⟨.int (hi - i), H, I1, ⟨t, ?_⟩, ⟨rfl, rfl⟩, st', fun b hb => (hf b hb).1⟩⟩
    congr 1; lia
  done := by
    intro X hP hw hK hc i pins s σ H E I hf st hg
    subst hP hw hK
    obtain ⟨f0, f1, f2, f3, f4, f5⟩ := hf it (by simp)
    exact wpAny_pyNext_range_end (I.ok.hd hc) st (by have : n ≤ i := hg; lia) fun h' eb => ⟨rfl, I.turned (t' := s.toks) (fun b o hb e => eb b o hb e) f0 f1 f3 f4 f5⟩
  self := fun _ _ _ _ _ st h => wpAny_pyIter_rangeiter st h
theorem seqs_down {hi : Int} {n : Nat} : Seqs (Itd hi n) n (fun _ => True) (fun i x H H' => H' = H ∧ x = .int (hi - i)) :=
  ⟨fun i H hi _ => hi, fun H _ => Nat.le_refl _, fun i H x H' hi _ q => q⟩
noncomputable def iDown (ta : TA) : TI := fun σ H R => ta σ H fun vs H1 => Ex2 fun (i j : Int) => vs = [.int i, .int j, .int (-1)] ∧ (-(2 ^ 62) ≤ i ∧ i < 2 ^ 62 ∧ -(2 ^ 62) ≤ j ∧ j < 2 ^ 62) ∧ R (Itd i (i - j).toNat) H1
theorem pi_down {a b c : Expr} {ta : TA} {tg : Expr} {p pos : Pos} (hg : Gl X "range") (hm : X.mg "range" = none) (ha : PA X [a, b, c] ta) (hs : starEach [a, b, c] X.env = (false, eval a X.env) :: starEach [b, c] X.env := by rfl) (hs2 : (backTo pos (starEach [b, c] X.env)).any (·.1) = false := by rfl) :
    PI X tg (.Call (.Name "range" p) [a, b, c] [] pos) (iDown ta) := by
  intro pins s σ H R I h
  refine Call_ (ld_blt I hg hm boot_range (PyProof.Rows.callWith_type1 (thn (ha pos pins s σ H _ I h) fun us s1 ⟨vs, H1, I1, r1, q1⟩ => ?_) hs hs2))
  obtain ⟨i, j, e, ⟨b1, b2, b3, b4⟩, q⟩ := q1
  subst e
  cases r1 with
  | cons r rr =>
    cases rr with
    | cons r' rr =>
      cases rr with
      | cons r'' rr =>
        cases rr
        obtain ⟨t, rfl⟩ := r
        obtain ⟨t', rfl⟩ := r'
        obtain ⟨t'', rfl⟩ := r''
        refine call_range_3 (by decide) ?_ (.inl (PyProof.noPylong_small (by decide)))
        refine wpAny_pyIter_range (IsRange.new ..) (PySem.W.small_down b1 b2 b3 b4) ?_
        generalize hG : s1.heap.push { cls := .type "range", data := .fields #[.int i t, .int j t', .int (-1) t''] } = G
        have I2 : Inv X pins σ H1 { s1 with heap := G } := I1.kept (t' := s1.toks) fun b o e => hG ▸ Heap.get?_push_of_some _ e
        refine ⟨G.objs.size, [G.objs.size], _, _, H1, rfl, I2.kept (t' := s1.toks) fun b o e => Heap.get?_push_of_some _ e, turn_down _ i (i - j).toNat, ?_, fun b hb => ?_, q⟩
        · have e1 : i + ((0 : Nat) : Int) * (-1) = i := by simp
          have e2 : (((i - j).toNat : Nat) : Int) - ((0 : Nat) : Int) = Builtin.Range.rangeSize i j (-1) := by rw [PySem.W.rangeSize_downNat]; simp
          show IsRangeIter _ _ (i + ((0 : Nat) : Int) * (-1)) ((((i - j).toNat : Nat) : Int) - ((0 : Nat) : Int)) (-1)
          rw [e1, e2]
          exact Heap.get?_push_size _ rfl
        · have e : b = G.objs.size := by simpa using hb
          subst e
          exact I2.fpOk (Nat.le_refl _) (I2.hok.fresh (Nat.le_refl _))

/-! ### range(n) as an object, list of it -/
noncomputable def tRng (ta : TA) : TE := fun σ H Q => ta σ H fun vs H1 => ∃ j : Int, vs = [.int j] ∧ ∀ p, H1 p = none → Q (.ref p) (upd H1 p (.rng 0 j))
theorem pe_range1 {a : Expr} {ta : TA} {p pos : Pos} (hg : Gl X "range") (hm : X.mg "range" = none) (ha : PA X [a] ta) (hs : starEach [a] X.env = [(false, eval a X.env)] := by rfl) : PE X (.Call (.Name "range" p) [a] [] pos) (tRng ta) := by
  intro pins s σ H Q I h
  refine Call_ (ld_blt I hg hm boot_range (PyProof.Rows.callWith_type1 (thn (ha pos pins s σ H _ I h) fun us s1 ⟨vs, H1, I1, r1, q1⟩ => ?_) hs rfl))
  obtain ⟨j, e, q⟩ := q1
  subst e
  cases r1 with
  | cons r rr =>
    cases rr
    obtain ⟨t, rfl⟩ := r
    exact call_range_1 ⟨.ref _, _, I1.laid (o := .rng 0 j) (fun b o e => Heap.get?_push_of_some _ e) (Nat.le_refl _) ⟨_, _, _, Heap.get?_push_size _ rfl⟩, rfl, q _ I1.fresh⟩
noncomputable def intsFrom (lo : Int) (n : Nat) : List V := (List.range n).map fun (i : Nat) => V.int (lo + (i : Int))
theorem vals_of_get : ∀ {xs : List V} {us : List Value}, xs.length = us.length → (∀ (i : Nat) x u, xs[i]? = some x → us[i]? = some u → RelV x u) → Vals xs us
  | [], [], _, _ => .nil
  | [], _ :: _, h, _ => by simp at h
  | _ :: _, [], h, _ => by simp at h
  | x :: xs, u :: us, h, g => .cons (g 0 x u rfl rfl) (vals_of_get (by simpa using h) fun i y v e1 e2 => g (i + 1) y v (by simpa using e1) (by simpa using e2))
theorem itemsOf_vals {lo : Int} {n : Nat} {acc : Array Value} (h : ItemsOf (fun i v => ∃ t, v = .int (lo + i * 1) t) acc n) : Vals (intsFrom lo n) acc.toList := by
  refine vals_of_get (by simp [intsFrom, h.1]) fun i x u e1 e2 => ?_
  obtain ⟨t, rfl⟩ := h.2 i u (by simpa using e2)
  have : x = V.int (lo + i) := by
    unfold intsFrom at e1
    rw [List.getElem?_map] at e1
    cases hr : (List.range n)[i]? with
    | none => rw [hr] at e1; cases e1
    | some j =>
      rw [hr] at e1
      have : j = i := by
        obtain ⟨h1, h2⟩ := List.getElem?_eq_some_iff.mp hr
        simpa using h2.symm
      subst this
      exact (Option.some.inj e1).symm
  subst this
  exact ⟨t, by simp⟩
theorem call_list_rng (hc : X.calm = true) : CallR X (.type "list") (fun xs H Q => Ex3 fun p lo hi => xs = [.ref p] ∧ H p = some (.rng lo hi) ∧ (-(2 ^ 62) ≤ lo ∧ lo < 2 ^ 62 ∧ -(2 ^ 62) ≤ hi ∧ hi < 2 ^ 62) ∧ (hi - lo).toNat ≤ sizeLine ∧ ∀ l, H l = none → Q (.ref l) (upd H l (.lst (intsFrom lo (hi - lo).toNat)))) := by
  intro pins s σ H xs us Q I r h
  obtain ⟨p, lo, hi, rfl, hp, ⟨b1, b2, b3, b4⟩, hz, q⟩ := h
  obtain ⟨u, rfl, rx⟩ := vals1 r
  cases rx
  obtain ⟨t, u, v, e⟩ := I.hok p _ hp
  refine call_list_range (n := (hi - lo).toNat) (I.ok.hd hc) e (small_one b1 b2 b3 b4) (by rw [rangeSize_one]; split <;> lia) (by have := sizeLine_eq; lia) fun h' tk acc c k ho hi' => ?_
  have rv := itemsOf_vals hi'
  refine ⟨.ref _, _, I.laid (t' := tk) k (Nat.le_refl _) (show ObjOk X.prog X.w _ h' _ (.lst (intsFrom lo (hi - lo).toNat)) from ⟨?_, acc.toList, c, rv, by simpa using ho⟩), rfl, q _ I.fresh⟩
  simpa [intsFrom] using hz

/-! ### a def of the text, ready to be called -/
/-- the def called x keeps sp, with n frames -/
noncomputable def Has (P : Program) (w : World) (K : PySem.W.Frag) (mg : Str → Option Value) (base : Heap) (n : Nat) (x : Str) (ps : List Str) (sp : Sp) : Prop :=
  Ex2 fun f fd => FnOk P w K mg base CX0 n f fd ps sp ∧ Binds K fd ps [] ∧ PySem.W.keepIn K (.ref f) = true ∧ mg x = some (.ref f)
theorem pe_callH {n k : Nat} {x : Str} {ps : List Str} {sp : Sp} {e : Expr} {es : List Expr} {t : TA} {p pos : Pos} (h : Has X.prog X.w X.K X.mg X.base n x ps sp) (hr : Room k X.A) (hle : n ≤ k) (hg : Gl X x) (ha : PA X (e :: es) t)
    (hdb : (x == ("__debug__" : Str)) = false := by decide) (he : starEach (e :: es) X.env = (false, eval e X.env) :: starEach es X.env := by rfl) (hpl : (backTo pos (starEach es X.env)).any (·.1) = false := by rfl) :
    PE X (.Call (.Name x p) (e :: es) [] pos) (tCall sp [] E0 t) := by
  obtain ⟨f, fd, F, B, kp, m⟩ := h
  exact pe_call F (hr.mono hle) hg m kp B .nil pass0 ha hdb he hpl
/-- while, by a word and a measure, without more -/
theorem while_go {c : TT} {tb : TS} {D : Ends} {σ : St} {H : Hp} (Pv : St → Hp → Prop) (μ : St → Hp → Nat) (h0 : Pv σ H)
    (hs : ∀ σ H, Pv σ H → c σ H fun b H1 => if b = true then ∃ N : St → Hp → Prop, (∀ σ' H', N σ' H' → ∃ m', m' < μ σ H ∧ m' = μ σ' H' ∧ Pv σ' H') ∧ tb { D with nx := N, ct := N, bk := D.nx } σ H1 else D.nx σ H1) : tWhile c tb D σ H := by
  refine ⟨fun m σ H => m = μ σ H ∧ Pv σ H, ⟨_, rfl, h0⟩, ?_⟩
  rintro m σ H ⟨rfl, p⟩
  exact hs σ H p
end
end L2

end
section
set_option Elab.async false
set_option linter.all false
set_option maxRecDepth 100000
set_option maxHeartbeats 4000000
namespace L2
open PySem PySem.Spec PyProof.Rows
section
variable {X : Cx}
theorem boot_ty_list : bootBuiltins "list" = some (.type "list") := by decide +kernel
theorem boot_ty_tuple : bootBuiltins "tuple" = some (.type "tuple") := by decide +kernel
theorem boot_ty_int : bootBuiltins "int" = some (.type "int") := by decide +kernel
theorem boot_ty_bool : bootBuiltins "bool" = some (.type "bool") := by decide +kernel
theorem boot_bi_abs : bootBuiltins "abs" = some (.builtin "abs") := by decide +kernel
theorem boot_bi_min : bootBuiltins "min" = some (.builtin "min") := by decide +kernel
theorem boot_bi_max : bootBuiltins "max" = some (.builtin "max") := by decide +kernel
theorem RelV_int (i : Int) (t : Tok) : RelV (.int i) (.int i t) := ⟨t, rfl⟩
theorem pg_tupK {es : List Expr} {k : Nat} {t : TGs} {n : Nat} {pos : Pos} {K : PySem.W.Frag} (hK : X.K = K) (hc : X.calm = true) (h : PGs X es t)
    (hn : (assignEach es X.env).length = n := by rfl) (hst : (assignEach es X.env).findIdx? (·.1) = none := by rfl) : PG X (.Tuple es k pos) (gTup K n t) := hK ▸ pg_tup hc h hn hst
end
end L2

end
section
set_option Elab.async false
set_option linter.all false
set_option maxRecDepth 100000
set_option maxHeartbeats 4000000
namespace L2
open PySem PySem.Spec PyProof.Rows
/-! ### dict of a list of pairs -/
theorem keys_miss {prog : Program} {w : World} {A : Around} {E : Value → Shared → Prop} {s : Shared} {a : Addr} {xs : Array Value} {k : Nat} {sl : Array (Option Value)} {u : Tok} {Q : Value → Shared → Prop}
    (hx : s.heap.get? a = some { cls := .type "list", dict := none, data := .seq xs k, slots := sl }) (hA : A.handled = none)
    (h : ∀ h' tk e, Heap.NewExcOf s.heap h' e "AttributeError" → E (.ref e) { s with heap := h', toks := tk }) :
    wpAny (model prog w) A (getAttrBy (.ref a) (.str "keys" u) false) Q E s := by
  have hmiss : typeLookup (.type "list") "keys" = pure none := by rw [typeLookup_type, builtinLookup_eq_fast]; kernel_rfl
  obtain ⟨hp, g, d, tk, os⟩ := s
  have hT : ∀ tk', (⟨hp, g, d, tk', os⟩ : Shared).TypeIs (.ref a) "list" := fun _ => ⟨_, hx, rfl⟩
  have f1 := sub_AttributeError
  have f3 := F.slot_list_getattribute.lookup
  have f4 := F.slot_list_getattribute.bind (.ref a)
  have f5 := am_list_getattr_none
  unfold getAttrBy
  repeat (any_goals (first | assumption | exact hT _ | ((with_reducible show wpAny _ _ (call (Value.builtin "list.__getattribute__") _ _) _ _ _); refine call_meets F.slot_list_getattribute (hT _) am_entry_list_getattribute (F.args_list_getattribute_2 _ _) (meets_getattribute_miss_list a xs k sl "keys" _ hmiss (by decide +kernel)) ⟨hx, hA, fun h' tk' e hx' => ?_⟩) | wp_step))
  obtain ⟨t', u', he⟩ := hx'.there
  show wpAny _ _ (getattributeRaised _ _ _ _ _ _ _) _ _ _
  unfold getattributeRaised
  repeat (any_goals (first | assumption | wp_step))
  exact h _ _ _ hx'.of
theorem keys_none {prog : Program} {w : World} {A : Around} {E : Value → Shared → Prop} {s : Shared} {a : Addr} {xs : Array Value} {k : Nat} {sl : Array (Option Value)} {Q : Option Value → Shared → Prop}
    (hx : s.heap.get? a = some { cls := .type "list", dict := none, data := .seq xs k, slots := sl }) (hA : A.handled = none)
    (h : ∀ h' tk, (∀ b o, s.heap.get? b = some o → h'.get? b = some o) → Q none { s with heap := h', toks := tk }) :
    wpAny (model prog w) A (getAttr? (.ref a) "keys") Q E s := by
  have f1 := sub_AttributeError
  unfold getAttr? getAttrBy?
  refine wpAny_bind (wpAny_mkText ?_)
  refine wpAny_bind ?_
  refine wpAny_attempt ?_
  refine keys_miss (by exact hx) hA fun h' tk e ne => ?_
  obtain ⟨oe, _, he, hc, _⟩ := ne.there
  show wpAny _ _ (isInstance (.ref e) (.type "AttributeError") >>= _) _ _ _
  refine wpAny_bind (wpAny_isInstance ⟨_, he, hc⟩ f1 ?_)
  exact wpAny_pure (h _ _ ne.keeps)
theorem entry_dict_loop : entryFor table "dict.update.loop" = some Builtin.«dict.update.loop» := entryFor_of_fast (by kernel_rfl)
theorem plain_dict_loop : plainId "dict.update.loop" = true := by decide +kernel
section
variable {prog : Program} {w : World} {K : Type} [DecidableEq K] {knd : KeyKind prog w K} {A : Around} {R : Result → Shared → Prop} {I ax d : Addr}
/-- the pairs are read, one after another, and stored -/
theorem dict_loop (hh : A.in1.handled = none) (items : Array Value) (more : List (K × Value)) (hne : ax ≠ I) (hdI : d ≠ I) (hda : d ≠ ax) (hsz : items.size ≤ sizeLine) (hml : more.length = items.size)
    (tp : Nat → Addr) (hit : ∀ j, j < items.size → items[j]? = some (.ref (tp j))) (htd : ∀ j, j < items.size → tp j ≠ d ∧ tp j ≠ I) :
    ∀ (k i : Nat) (s : Shared) (t : Tok) (kvs : List (K × Value)), items.size - i = k → i ≤ items.size → s.heap.IsListIter I ax i ∧ s.heap.IsList ax items → s.heap.DictOf knd d kvs → kvs.length ≤ i →
    (∀ j kv, more[j]? = some kv → ∃ key, knd.is kv.1 key = true ∧ s.heap.IsTuple (tp j) #[key, kv.2]) →
    (∀ s', s'.heap.DictOf knd d (merged kvs (more.drop i)) → (∀ b o, b ≠ I → b ≠ d → s.heap.get? b = some o → s'.heap.get? b = some o) → (Ex2 fun h' tk => s' = { s with heap := h', toks := tk }) → R (.ok (.ret .none)) s') →
    codeAny (model prog w) A (.builtin "dict.update.loop" ⟨[.ref d, .ref I, .int (i : Int) t, .none], []⟩) R s := by
  have W := Walks.list (prog := prog) (w := w) hh I ax hne items
  intro k
  induction k with
  | zero =>
    intro i s t kvs hk hi hst hd hkl hpairs hR
    have hin : i = items.size := by lia
    subst hin
    refine codeAny_builtin entry_dict_loop ?_
    rw [Around.under_plainId plain_dict_loop _]
    show wpAny _ A.in1 (pyNext (.ref I) >>= _) _ _ s
    refine wpAny_bind (W.done s _ _ hst fun h' tk hk' => ?_)
    have hm : more.drop items.size = [] := List.drop_of_length_le (by lia)
    rw [hm] at hR
    have hd' : h'.DictOf knd d kvs := hd.at fun o e => hk' d o (by simp [hdI]) e
    refine wpAny_pure (hR { s with heap := h', toks := tk } hd' (fun b o h1 h2 e => hk' b o (by simp [h1]) e) ⟨_, _, rfl⟩)
  | succ k ih =>
    intro i s t kvs hk hi hst hd hkl hpairs hR
    have hlt : i < items.size := by lia
    refine codeAny_builtin entry_dict_loop ?_
    rw [Around.under_plainId plain_dict_loop _]
    show wpAny _ A.in1 (pyNext (.ref I) >>= _) _ _ s
    refine wpAny_bind (W.item i s _ _ hlt hst fun v h' tk hP hst' hk' => ?_)
    rw [hit i hlt] at hP
    cases hP
    obtain ⟨kv, hkv⟩ : ∃ kv, more[i]? = some kv := ⟨more[i]'(by lia), List.getElem?_eq_getElem (by lia)⟩
    obtain ⟨key, hkey, htup⟩ := hpairs i kv hkv
    have htup' : h'.IsTuple (tp i) #[key, kv.2] := htup.at fun o e => hk' _ o (by simp [(htd i hlt).2]) e
    obtain ⟨ot, hot, hoc, nn, hod⟩ := id htup'
    have hd' : h'.DictOf knd d kvs := hd.at fun o e => hk' d o (by simp [hdI]) e
    refine wpAny_bind (wpAny_holding ?_)
    refine wpAny_bind (wpAny_tryCatch ?_)
    unfold Builtin.Dict.pairItems
    refine wpAny_bind (wpAny_typeOf ⟨_, hot, hoc⟩ ?_)
    rw [if_pos (by decide)]
    refine wpAny_bind (wpAny_seqItems hot hod ?_)
    refine wpAny_pure ?_
    show wpAny _ A.in1 (holding [key, kv.2] (dictSet d key kv.2)) _ _ _
    refine wpAny_holding (wpAny_dictSet_pairs (hsz := by lia) hkey hd' fun h2 hd2 hs2 => ?_)
    have step : more.drop i = kv :: more.drop (i + 1) := by
      rw [List.drop_eq_getElem_cons (by lia)]
      congr 1
      exact Option.some.inj ((List.getElem?_eq_getElem (by lia)).symm.trans hkv)
    refine wpAny_pure ⟨plainId_quiet plain_dict_loop _, ih (i + 1) _ _ (stored kvs kv.1 kv.2) (by lia) hlt ?_ hd2 ?_ (fun j kv' hj => ?_) fun s' h1 h2' h3 => hR s' ?_ (fun b o n1 n2 e => h2' b o n1 n2 (hs2.extBut b o n2 (hk' b o (by simp [n1]) e))) ?_⟩
    · exact W.frame _ _ _ hst' fun b hb o e => hs2.extBut b o (by simp only [List.mem_cons, List.not_mem_nil, or_false] at hb; rcases hb with rfl | rfl; exact Ne.symm hdI; exact Ne.symm hda) e
    · have := stored_length_le kvs kv.1 kv.2; lia
    · obtain ⟨key', a1, a2⟩ := hpairs j kv' hj
      have hj' : j < items.size := by rw [← hml]; exact (List.getElem?_eq_some_iff.mp hj).1
      exact ⟨key', a1, (a2.at fun o e => hk' _ o (by simp [(htd j hj').2]) e).at fun o e => hs2.extBut _ o (htd j hj').1 e⟩
    · rw [step]; exact h1
    · obtain ⟨h4, tk4, rfl⟩ := h3; exact ⟨_, _, rfl⟩
end
section
variable {X : Cx}
theorem Vals.getR : ∀ {xs : List V} {us : List Value}, Vals xs us → ∀ (j : Nat) x u, xs[j]? = some x → us[j]? = some u → RelV x u
  | _, _, .nil, j, x, u, e, _ => by simp at e
  | _ :: _, _ :: _, .cons r t, 0, x, u, e1, e2 => by simp at e1 e2; subst e1 e2; exact r
  | _ :: _, _ :: _, .cons r t, j + 1, x, u, e1, e2 => Vals.getR t j x u (by simpa using e1) (by simpa using e2)
/-- dict of a list of pairs with keys that differ -/
noncomputable def rDictOf : List V → Hp → VK → Prop := fun xs H Q => Ex3 fun (a : Addr) (ts : List Addr) (kvs : List (Key × V)) => xs = [.ref a] ∧ H a = some (.lst (ts.map V.ref)) ∧ ts.length = kvs.length ∧ kvs.length ≤ sizeLine ∧
  (∀ (j : Nat) t kv, ts[j]? = some t → kvs[j]? = some kv → H t = some (.tup [kV kv.1, kv.2])) ∧ (kvs.map (·.1)).Nodup ∧ ∀ D, H D = none → Q (.ref D) (upd H D (.dK kvs))
theorem pairs_read {P : Program} {w : World} {pins : List (Addr × Obj)} {σ : St} {H : Hp} {s : Shared} (I : Inv X pins σ H s) : ∀ (ts : List Addr) (kvs : List (Key × V)), ts.length = kvs.length → (∀ (j : Nat) t kv, ts[j]? = some t → kvs[j]? = some kv → H t = some (.tup [kV kv.1, kv.2])) →
    ∃ vs : List (Key × Value), KV kvs vs ∧ vs.length = ts.length ∧ ∀ (j : Nat) kv t, vs[j]? = some kv → ts[j]? = some t → ∃ key, (mixKind P w).is kv.1 key = true ∧ s.heap.IsTuple t #[key, kv.2]
  | [], [], _, _ => ⟨[], .nil, rfl, fun j kv t e => by simp at e⟩
  | [], _ :: _, h, _ => by simp at h
  | _ :: _, [], h, _ => by simp at h
  | t :: ts, kv :: kvs, h, hp => by
    obtain ⟨vs, h1, h2, h3⟩ := pairs_read I ts kvs (by simpa using h) fun j t' kv' e1 e2 => hp (j + 1) t' kv' (by simpa using e1) (by simpa using e2)
    obtain ⟨its, r, p, _⟩ := I.tuple (SqT.of (hp 0 t kv rfl rfl))
    cases r with
    | cons ra rr =>
      cases rr with
      | cons rb rz =>
        cases rz
        rename_i ka va
        refine ⟨(kv.1, va) :: vs, .cons ⟨rfl, rb⟩ h1, by simp [h2], fun j kv' t' e1 e2 => ?_⟩
        cases j with
        | zero =>
          simp at e1 e2
          subst e1 e2
          exact ⟨ka, kV_is ra, p⟩
        | succ j => exact h3 j kv' t' (by simpa using e1) (by simpa using e2)
theorem call_dict_pairs (hc : X.calm = true) : CallR X (.type "dict") rDictOf := by
  intro pins s σ H xs us Q I r h
  obtain ⟨a, ts, kvs, rfl, ha, hl, hsz, hp, hn, q⟩ := h
  obtain ⟨u, rfl, rx⟩ := vals1 r
  cases rx
  obtain ⟨its, r1, p1, z1⟩ := I.list (SqL.of ha)
  refine callType_codes (Q₁ := fun obj s₁ => obj = .ref s.heap.objs.size ∧ s₁ = { s with heap := s.heap.push { cls := .type "dict", data := .dict #[] } }) F.kt_called_dict (F.kt_typeCall_dict_1 _) F.entry_dict_init (kt_code_dict_new _ ⟨rfl, rfl⟩) ?_
  rintro obj s₁ ⟨rfl, rfl⟩
  have hnew : (s.heap.push { cls := .type "dict", data := .dict #[] }).DictOf (mixKind X.prog X.w) s.heap.objs.size [] := Heap.DictOf.new s.heap
  refine ⟨hnew.typeIs, F.args_dict_init_2 _ _, ?_⟩
  unfold Builtin.«dict.__init__»
  refine wpAny_bind ?_
  unfold Builtin.Dict.selfAndRest
  refine wpAny_bind (wpAny_notOrdered_dict hnew.typeIs ?_)
  show wpAny _ _ (pure (s.heap.objs.size, [Value.ref a])) _ _ _
  refine wpAny_pure ?_
  show wpAny _ _ (Builtin.Dict.updateFrom "dict.__init__" s.heap.objs.size (.ref a) [] .none) _ _ _
  unfold Builtin.Dict.updateFrom
  have hne : ∀ b o, s.heap.get? b = some o → b ≠ s.heap.objs.size := fun b o e z => by have l : s.heap.objs.size ≥ Nat.succ b := Heap.lt_size e; have z' : @Eq Nat b s.heap.objs.size := z; lia
  obtain ⟨vs, hKV, hvl, hvs⟩ := pairs_read (P := X.prog) (w := X.w) I ts kvs hl hp
  have hA : X.A.in1.in1.handled = none := I.ok.hd hc
  obtain ⟨⟨ca, da, dta, sla⟩, na, hoa, hca, hda, hdt⟩ := id p1
  dsimp only at hca hda hdt
  subst hca hda hdt
  have e1 : (s.heap.push { cls := .type "dict", data := .dict #[] }).get? a = some { cls := .type "list", dict := none, data := .seq its.toArray na, slots := sla } := Heap.get?_push_of_some _ hoa
  refine wpAny_bind (wpAny_typeOf ⟨_, e1, rfl⟩ ?_)
  dsimp only
  rw [if_pos (by decide)]
  refine wpAny_bind (keys_none e1 hA fun h1 tk1 hk1 => ?_)
  rw [if_pos (show (none : Option Value).isNone = true from rfl)]
  refine wpAny_bind (wpAny_rule ?_)
  have e2 : h1.IsList a its.toArray := ⟨_, hk1 _ _ e1, rfl, na, rfl⟩
  refine wpAny_bind (wpAny_pyIter_list e2 ?_)
  have hN : s.heap.objs.size < h1.objs.size := Heap.lt_size (hk1 _ _ (Heap.get?_push_size _ rfl))
  have hI : ∀ b o, h1.get? b = some o → b ≠ h1.objs.size := fun b o e z => by have l : h1.objs.size ≥ Nat.succ b := Heap.lt_size e; have z' : @Eq Nat b h1.objs.size := z; lia
  have kp : ∀ b o, s.heap.get? b = some o → (h1.push { cls := .type "list_iterator", data := .fields #[.ref a, .int 0 0] }).get? b = some o := fun b o e => Heap.get?_push_of_some _ (hk1 _ _ (Heap.get?_push_of_some _ e))
  have hr1 := r1.length
  have hlen : its.toArray.size = ts.length := by rw [List.size_toArray, ← hr1, List.length_map]
  have hti : ∀ j, j < its.toArray.size → its.toArray[j]? = some (.ref (ts.getD j 0)) := by
    intro j hj
    rw [hlen] at hj
    have hj2 : j < its.length := by rw [← hr1, List.length_map]; exact hj
    rw [List.getElem?_toArray, List.getElem?_eq_getElem hj2]
    have g := Vals.getR r1 j (.ref (ts.getD j 0)) its[j] (by rw [List.getElem?_map, List.getElem?_eq_getElem hj]; simp [List.getD, hj]) (List.getElem?_eq_getElem hj2)
    exact congrArg some g
  have htu : ∀ j, j < its.toArray.size → ∃ o, s.heap.get? (ts.getD j 0) = some o := by
    intro j hj
    rw [hlen] at hj
    have hj2 : j < vs.length := by rw [hvl]; exact hj
    obtain ⟨key, _, o, ho, _⟩ := hvs j vs[j] (ts.getD j 0) (List.getElem?_eq_getElem hj2) (by simp [List.getD, hj])
    exact ⟨o, ho⟩
  refine wpAny_pure ⟨plainId_quiet plain_dict_loop _, ?_⟩
  refine dict_loop (knd := mixKind X.prog X.w) (A := X.A.in1) (I := h1.objs.size) (ax := a) (d := s.heap.objs.size) hA its.toArray vs (hI _ _ (hk1 _ _ e1)) (Nat.ne_of_lt hN) (Ne.symm (hne _ _ hoa)) (by rw [hlen, hl]; exact hsz) (by rw [hvl, hlen]) (fun j => ts.getD j 0) hti
    (fun j hj => by obtain ⟨o, ho⟩ := htu j hj; exact ⟨hne _ _ ho, hI _ _ (hk1 _ _ (Heap.get?_push_of_some _ ho))⟩) _ 0 _ _ [] rfl (Nat.zero_le _) ⟨⟨_, Heap.get?_push_size _ rfl, rfl, rfl⟩, e2.push _⟩ ?_ (Nat.le_refl _) ?_ ?_
  · exact (hnew.at fun o e => hk1 _ _ e).push _
  · intro j kv hj
    have hj2 : j < ts.length := by rw [← hvl]; exact (List.getElem?_eq_some_iff.mp hj).1
    obtain ⟨key, k1, k2⟩ := hvs j kv (ts.getD j 0) hj (by simp [List.getD, hj2])
    exact ⟨key, k1, k2.at fun o e => kp _ _ e⟩
  · rintro s' hd hk ⟨h', tk, rfl⟩
    have hkeys : vs.map (·.1) = kvs.map (·.1) := (KV.keys hKV).symm
    rw [List.drop_zero, merged_nil_of_nodup vs (by rw [hkeys]; exact hn)] at hd
    refine ⟨rfl, .ref s.heap.objs.size, _, I.laid (a := s.heap.objs.size) (o := .dK kvs) (t' := tk) (h' := h') (fun b o e => hk b o (hI _ _ (hk1 _ _ (Heap.get?_push_of_some _ e))) (hne _ _ e) (kp _ _ e)) (Nat.le_refl _) ⟨hsz, beq_eq_false_iff_ne.mpr (Ne.symm (Nat.ne_of_lt I.big)), vs, hKV, hd⟩, rfl, q _ (I.hok.fresh (Nat.le_refl _))⟩
end
end L2

end
section
set_option Elab.async false
set_option linter.all false
set_option maxRecDepth 100000
set_option maxHeartbeats 4000000
namespace L2
open PySem PySem.Spec PyProof.Rows
section
variable {X : Cx}
/-! ### tuples of ints compared -/
theorem ints_eqAt {A : Around} {s : Shared} : ∀ {xs : List Int} {us : List Value}, Vals (xs.map V.int) us → ∀ {ys : List Int} {vs : List Value}, Vals (ys.map V.int) vs → ∀ j (h1 : j < us.toArray.size) (h2 : j < vs.toArray.size), SeqAt.EqAt A s us.toArray[j] vs.toArray[j] (xs.getD j 0 == ys.getD j 0) := by
  intro xs us r1 ys vs r2 j h1 h2
  have l1 := r1.length
  have l2 := r2.length
  rw [List.length_map] at l1 l2
  rw [List.size_toArray] at h1 h2
  have g1 := Vals.getR r1 j (.int (xs.getD j 0)) us[j] (by rw [List.getElem?_map, List.getElem?_eq_getElem (by lia)]; simp [List.getD, show j < xs.length by lia]) (List.getElem?_eq_getElem h1)
  have g2 := Vals.getR r2 j (.int (ys.getD j 0)) vs[j] (by rw [List.getElem?_map, List.getElem?_eq_getElem (by lia)]; simp [List.getD, show j < ys.length by lia]) (List.getElem?_eq_getElem h2)
  obtain ⟨t1, e1⟩ := g1
  obtain ⟨t2, e2⟩ := g2
  rw [List.getElem_toArray, List.getElem_toArray, e1, e2]
  exact SeqAt.EqAt.int_int _ t1 _ t2
theorem range_eqs {xs ys : List Int} : ((List.range (min xs.length ys.length)).all (fun j => xs.getD j 0 == ys.getD j 0) && xs.length == ys.length) = decide (xs = ys) := by
  rw [Bool.eq_iff_iff, Bool.and_eq_true, List.all_eq_true, decide_eq_true_iff, beq_iff_eq]
  constructor
  · rintro ⟨h1, h2⟩
    refine List.ext_getElem h2 fun j a b => ?_
    have := h1 j (List.mem_range.mpr (by lia))
    simpa [List.getD, a, b] using this
  · rintro rfl
    exact ⟨fun j _ => by simp, rfl⟩
noncomputable def rEqT (K : PySem.W.Frag) (neg : Bool) : R2 := fun x y H Q => Ex4 fun (a b : Addr) (xs ys : List Int) => x = .ref a ∧ y = .ref b ∧ SqT K H a (xs.map V.int) ∧ SqT K H b (ys.map V.int) ∧ Q (.bl (if neg then !decide (xs = ys) else decide (xs = ys))) H
theorem op_eqT (hu : X.A.units < cLine) : OpR X (compareOp .Eq) (rEqT X.K false) := by
  intro pins s σ H x y v u Q I rx ry h
  obtain ⟨a, b, xs, ys, rfl, rfl, ha, hb, q⟩ := h
  cases rx; cases ry
  obtain ⟨us, r1, p1, z1⟩ := I.tuple ha
  obtain ⟨vs, r2, p2, z2⟩ := I.tuple hb
  refine SeqAt.eq_tupleAt p1 p2 hu (ints_eqAt r1 r2) ?_
  have l1 := r1.length
  have l2 := r2.length
  rw [List.length_map] at l1 l2
  rw [List.size_toArray, List.size_toArray, ← l1, ← l2, range_eqs]
  exact ⟨.bl _, H, I, rfl, q⟩
theorem op_neT (hu : X.A.units < cLine) : OpR X (compareOp .NotEq) (rEqT X.K true) := by
  intro pins s σ H x y v u Q I rx ry h
  obtain ⟨a, b, xs, ys, rfl, rfl, ha, hb, q⟩ := h
  cases rx; cases ry
  obtain ⟨us, r1, p1, z1⟩ := I.tuple ha
  obtain ⟨vs, r2, p2, z2⟩ := I.tuple hb
  refine SeqAt.RcNeAt.tuples (e := fun j => xs.getD j 0 == ys.getD j 0) p1 p2 hu (ints_eqAt r1 r2) _ _ _ _ ?_
  have l1 := r1.length
  have l2 := r2.length
  rw [List.length_map] at l1 l2
  rw [List.size_toArray, List.size_toArray, ← l1, ← l2, range_eqs]
  exact ⟨.bl _, H, I, rfl, q⟩
/-! ### repr of a tuple, of a list, of ints -/
end
end L2

end
section
set_option Elab.async false
set_option linter.all false
set_option maxRecDepth 100000
set_option maxHeartbeats 4000000
namespace L2
open PySem PySem.Spec PyProof.Rows
section
variable {X : Cx} {pos : Pos}
/-! ### three names at once -/
noncomputable def tPar3 (i j k : Nat) (ta : TA) : TS := fun D σ H => ta σ H fun vs H1 => Ex3 fun u v w => vs = [u, v, w] ∧ D.nx (((σ.set i (some u)).set j (some v)).set k (some w)) H1
theorem ps_par3 {i j k : Nat} {x y z : Str} {a b c : Expr} {ta : TA} {px py pz pt : Pos} {kt k2 pt2} (hc : X.calm = true) (hN : X.N.Nodup) (hi : X.N[i]? = some x) (hj : X.N[j]? = some y) (hk : X.N[k]? = some z) (hij : i ≠ j ∧ i ≠ k ∧ j ≠ k)
    (hx : X.env.scope.names.lookup x = some .local) (hy : X.env.scope.names.lookup y = some .local) (hz : X.env.scope.names.lookup z = some .local) (ha : PA X [a, b, c] ta)
    (hw : swappedStores [.Tuple [.Name x px, .Name y py, .Name z pz] kt pt] (.Tuple [a, b, c] k2 pt2) X.env = pure (some [x, y, z]))
    (hs : swapsWithSole [.Tuple [.Name x px, .Name y py, .Name z pz] kt pt] (.Tuple [a, b, c] k2 pt2) pos.line X.env = pure false := by rfl) :
    PS X (.Assign [.Tuple [.Name x px, .Name y py, .Name z pz] kt pt] (.Tuple [a, b, c] k2 pt2) pos) (tPar3 i j k ta) := by
  intro pins s σ H D I h
  rw [exec_Assign_arm]
  refine wpAny_bind (wpAny_standAt ?_)
  rw [hs]
  refine wpAny_bind (wpAny_pure ?_)
  rw [if_neg (by decide)]
  refine wpAny_bind (Tuple_ (thn (ha _ pins s σ H _ I h) fun us s1 hq => ?_))
  obtain ⟨vs, H1, I1, r1, q1⟩ := hq
  obtain ⟨v1, v2, v3, e1, q1⟩ := q1
  subst e1
  obtain ⟨u1, u2, u3, rfl, r1', r2', r3'⟩ : Ex3 fun u1 u2 u3 => us = [u1, u2, u3] ∧ RelV v1 u1 ∧ RelV v2 u2 ∧ RelV v3 u3 := by
    cases r1 with
    | cons p q =>
      cases q with
      | cons p' q' =>
        cases q' with
        | cons p'' q'' =>
          cases q''
          exact ⟨_, _, _, rfl, p, p', p''⟩
  refine wpAny_newObj_type ?_ (by show 3 ≤ sizeLine; decide)
  have I2 : Inv X pins σ H1 { s1 with heap := s1.heap.push { cls := .type "tuple", data := .seq [u1, u2, u3].toArray } } := I1.kept (t' := s1.toks) fun b o e => Heap.get?_push_of_some _ e
  rw [hw]
  refine wpAny_bind (wpAny_pure ?_)
  show wpAny (model X.prog X.w) X.A (do rule "assign.swapped-stores"; let items ← unpackItems (.ref s1.heap.objs.size) 3 none; assignInOrder [fun v => bindName X.env z v, fun v => bindName X.env y v, fun v => bindName X.env x v] items.reverse; pure Flow.next) _ _ _
  refine wpAny_bind (wpAny_rule (wpAny_bind (unpackItems_tuple (items := #[u1, u2, u3]) (I.ok.hd hc) (IsTup.new s1.heap _) fun h' hx' => ?_)))
  have I3 := I2.kept (h' := h') (t' := s1.toks) fun b o e => hx' b o (Nat.ne_of_lt (Heap.lt_size e)) e
  show wpAny _ _ (assignInOrder [fun v => bindName X.env z v, fun v => bindName X.env y v, fun v => bindName X.env x v] [u3, u2, u1] >>= fun _ => pure Flow.next) _ _ _
  refine wpAny_bind (assignInOrder_cons (wpAny_bindName (store_ok I3 hN hk (.inl hz) r3' (fun s2 I4 => ?_) (.inr hz))))
  refine assignInOrder_cons (wpAny_bindName (store_ok I4 hN hj (.inl hy) r2' (fun s2 I5 => ?_) (.inr hy)))
  refine assignInOrder_cons (wpAny_bindName (store_ok I5 hN hi (.inl hx) r1' (fun s3 I6 => assignInOrder_nil (wpAny_pure ?_)) (.inr hx)))
  have e : ((σ.set k (some v3)).set j (some v2)).set i (some v1) = ((σ.set i (some v1)).set j (some v2)).set k (some v3) := by
    rw [List.set_comm (some v3) (some v2) (Ne.symm hij.2.2), List.set_comm (some v3) (some v1) (Ne.symm hij.2.1), List.set_comm (some v2) (some v1) (Ne.symm hij.1)]
  rw [e] at I6
  exact ⟨_, H1, I6, q1⟩
/-! ### rules that name the frozen part, for a comprehension's own context -/
section
variable {K : PySem.W.Frag}
theorem ix_tupK (h : X.K = K) : IxR X (rIxT K) := h ▸ ix_tup
theorem op_in_seqK (h : X.K = K) : OpR X (compareOp .In) (rIn K false) := h ▸ op_in_seq
end
end
end L2

end
section
set_option Elab.async false
set_option linter.all false
set_option maxRecDepth 100000
set_option maxHeartbeats 4000000
namespace L2
open PySem PySem.Spec PyProof.Rows
open MeetsSeq MeetsSeq2 MeetsSeq3
theorem noFill_tuple_mul : fillsNumberSlot (.type "tuple") "mul" = pure false :=
  PySem.fillsNumberSlot_seq (id := "tuple.__mul__") (r := some (.builtin "tuple.__rmul__")) PySem.F.slot_tuple_mul.lookup (by decide +kernel) PySem.F.slot_tuple_rmul.lookup (by decide +kernel)
theorem repeat_tuple : seqRepeat? (.type "tuple") = pure (some (.builtin "tuple.__mul__")) := by
  unfold seqRepeat?
  rw [PySem.seqSlot_of (T := "tuple") (name := "__mul__") (id := "tuple.__mul__") PySem.F.slot_tuple_mul.lookup (by decide +kernel), PySem.seqSlot_of (T := "tuple") (name := "__rmul__") (id := "tuple.__rmul__") PySem.F.slot_tuple_rmul.lookup (by decide +kernel)]
  rfl
theorem rmul_int_tuple (a : Int) (t : Tok) (l : Addr) (items : Array Value) (n : Nat) (dd : Option Addr) (sl : Array (Option Value)) :
    Meets (Builtin.«int.__rmul__» ⟨[.int a t, .ref l], []⟩) (fun _ R s => s.heap.get? l = some { cls := .type "tuple", dict := dd, data := .seq items n, slots := sl } ∧ R (.ok (.ret Value.notImplemented)) s) :=
  .of_wp fun prog w A R s h => by obtain ⟨hp, g, d, tk, os⟩ := s; obtain ⟨hl, h⟩ := h; wp_walk; exact ⟨_, rfl, h⟩
theorem tuple_mul_1 (l : Addr) (items : Array Value) (n : Nat) (dd : Option Addr) (sl : Array (Option Value)) (u : Tok) :
    Meets (Builtin.«tuple.__mul__» ⟨[.ref l, .int 1 u], []⟩) (fun _ R s => s.heap.get? l = some { cls := .type "tuple", dict := dd, data := .seq items n, slots := sl } ∧ R (.ok (.ret (.ref l))) s) :=
  .of_wp fun prog w A R s h => by
    obtain ⟨hp, g, d, tk, os⟩ := s; obtain ⟨hl, h⟩ := h
    wp_walk
    exact ⟨_, rfl, h⟩
theorem tuple_mul_0 (l : Addr) (items : Array Value) (n : Nat) (dd : Option Addr) (sl : Array (Option Value)) (u : Tok) (hne : items.isEmpty = false) :
    Meets (Builtin.«tuple.__mul__» ⟨[.ref l, .int 0 u], []⟩) (fun _ R s => s.heap.get? l = some { cls := .type "tuple", dict := dd, data := .seq items n, slots := sl } ∧ R (.ok (.ret (.ref s.heap.objs.size))) { s with heap := s.heap.push { cls := .type "tuple", data := .seq #[] } }) :=
  .of_wp fun prog w A R s h => by
    obtain ⟨hp, g, d, tk, os⟩ := s; obtain ⟨hl, h⟩ := h
    have h0 : (items.isEmpty || ((0 : Int) == 1)) = false := by rw [hne]; rfl
    have h1 : (decide ((0 : Int) ≤ 0) || items.isEmpty) = true := rfl
    wp_walk
    exact ⟨_, rfl, h⟩
theorem tuple_mul_n (l : Addr) (items : Array Value) (n : Nat) (dd : Option Addr) (sl : Array (Option Value)) (x : Int) (u : Tok) (hne : items.isEmpty = false) (h2 : 2 ≤ x) (h3 : x < 2 ^ 63) (hz : items.size * x ≤ (sizeLine : Int)) :
    Meets (Builtin.«tuple.__mul__» ⟨[.ref l, .int x u], []⟩) (fun _ R s => s.heap.get? l = some { cls := .type "tuple", dict := dd, data := .seq items n, slots := sl } ∧ R (.ok (.ret (.ref s.heap.objs.size))) { s with heap := s.heap.push { cls := .type "tuple", data := .seq ((List.replicate x.toNat items).foldl (· ++ ·) #[]) } }) :=
  .of_wp fun prog w A R s h => by
    obtain ⟨hp, g, d, tk, os⟩ := s; obtain ⟨hl, h⟩ := h
    have g0 : (decide (x < -(2 ^ 63)) || decide (x ≥ 2 ^ 63)) = false := by simp; lia
    have g1 : (items.isEmpty || (x == 1)) = false := by rw [hne]; simp; lia
    have g2 : (decide (x ≤ 0) || items.isEmpty) = false := by rw [hne]; simp; lia
    have hcap : ¬ items.size * x > (2 ^ 63 - 1) / 8 := by
      have : ((sizeLine : Nat) : Int) ≤ (2 ^ 63 - 1) / 8 := by decide
      lia
    have hl2 : Builtin.Tuple.tupleTooMany (items.size * x) = false := by unfold Builtin.Tuple.tupleTooMany; simp; lia
    wp_walk
    rw [if_neg (by rw [g0]; exact Bool.false_ne_true)]
    wp_walk
    rw [if_neg (by rw [g1]; exact Bool.false_ne_true)]
    wp_walk
    rw [if_neg (by rw [g2]; exact Bool.false_ne_true)]
    dsimp only
    rw [if_neg hcap, if_neg (by rw [hl2]; exact Bool.false_ne_true)]
    have hs : ((List.replicate x.toNat items).foldl (· ++ ·) #[]).size ≤ sizeLine := by
      have e : ∀ (k : Nat) (acc : Array Value), ((List.replicate k items).foldl (· ++ ·) acc).size = acc.size + k * items.size := by
        intro k
        induction k with
        | zero => intro acc; simp
        | succ k ih => intro acc; rw [List.replicate_succ, List.foldl_cons, ih, Array.size_append, Nat.succ_mul]; lia
      rw [e]
      have h4 : (items.size : Int) * x = ((x.toNat * items.size : Nat) : Int) := by rw [Int.natCast_mul, Int.toNat_of_nonneg (by lia), Int.mul_comm]
      rw [h4] at hz
      simp
      lia
    unfold Builtin.Tuple.tupleExact
    refine wpAny_bind (wpAny_newObj_type ?_ hs)
    exact wpAny_pure ⟨_, rfl, h⟩
section
variable {X : Cx}
/-- t * k, t not empty -/
noncomputable def rRepT (K : PySem.W.Frag) : R2 := fun x y H Q => Ex3 fun (a : Addr) (k : Int) (xs : List V) => x = .ref a ∧ y = .int k ∧ SqT K H a xs ∧ xs ≠ [] ∧ 0 ≤ k ∧ k < 2 ^ 63 ∧ xs.length * k.toNat ≤ sizeLine ∧
  (k = 1 → Q (.ref a) H) ∧ (k ≠ 1 → ∀ p, H p = none → Q (.ref p) (upd H p (.tup (List.replicate k.toNat xs).flatten)))
theorem op_repT : OpR X (binaryOp .Mult) (rRepT X.K) := by
  intro pins s σ H x y v u Q I rx ry h
  obtain ⟨a, k, xs, rfl, rfl, ha, hne, h0, h1, hz, q1, q2⟩ := h
  cases rx
  obtain ⟨t, rfl⟩ := ry
  obtain ⟨its, r, ⟨⟨cls, dd, data, sl⟩, ho, hc, n, hd⟩, z⟩ := I.tuple ha
  simp only at hc hd
  subst hc hd
  have hl := r.length
  have hine : its.toArray.isEmpty = false := by
    cases its with
    | nil => cases r; exact absurd rfl hne
    | cons _ _ => rfl
  refine wpAny_binaryOp_repeat_ref (T := "tuple") (U := "int") (by decide) ⟨_, ho, rfl⟩ (fun s' => typeIs_int s' k t) noFill_tuple_mul F.fills_int_mul F.slot_int_rmul repeat_tuple F.slot_int_index.lookup
    (call_meets F.slot_int_rmul (typeIs_int s k t) F.entry_int_rmul (F.args_int_rmul_2 _ _) (rmul_int_tuple k t a its.toArray n dd sl) ⟨ho, rfl, ⟨_, ho, rfl⟩, ?_⟩)
  by_cases e1 : k = 1
  · subst e1
    exact call_meets PySem.F.slot_tuple_mul ⟨_, ho, rfl⟩ PySem.F.entry_tuple_mul (PySem.F.args_tuple_mul_2 _ _) (tuple_mul_1 a its.toArray n dd sl t) ⟨ho, ⟨.ref a, H, I, rfl, q1 rfl⟩⟩
  · by_cases e0 : k = 0
    · subst e0
      refine call_meets PySem.F.slot_tuple_mul ⟨_, ho, rfl⟩ PySem.F.entry_tuple_mul (PySem.F.args_tuple_mul_2 _ _) (tuple_mul_0 a its.toArray n dd sl t hine) ⟨ho, ?_⟩
      exact ⟨.ref s.heap.objs.size, _, I.laid (t' := s.toks) (o := .tup []) (fun b ob q => Heap.get?_push_of_some _ q) (Nat.le_refl _) ⟨Nat.zero_le _, [], .nil, IsTup.new _ _⟩, rfl, q2 e1 _ (I.hok.fresh (Nat.le_refl _))⟩
    · have hz2 : (its.toArray.size : Int) * k ≤ (sizeLine : Int) := by
        rw [List.size_toArray, ← hl]
        have h4 : (xs.length : Int) * k = ((xs.length * k.toNat : Nat) : Int) := by rw [Int.natCast_mul, Int.toNat_of_nonneg h0]
        rw [h4]; lia
      refine call_meets PySem.F.slot_tuple_mul ⟨_, ho, rfl⟩ PySem.F.entry_tuple_mul (PySem.F.args_tuple_mul_2 _ _) (tuple_mul_n a its.toArray n dd sl k t hine (by lia) h1 hz2) ⟨ho, ?_⟩
      have hnew : List.foldl (fun x1 x2 => x1 ++ x2) #[] (List.replicate k.toNat its.toArray) = (List.replicate k.toNat its).flatten.toArray := by
        have := foldl_rep its k.toNat []
        rw [List.nil_append] at this
        exact this
      rw [hnew]
      refine ⟨.ref s.heap.objs.size, _, I.laid (t' := s.toks) (o := .tup (List.replicate k.toNat xs).flatten) (fun b ob q => Heap.get?_push_of_some _ q) (Nat.le_refl _) ⟨by rw [len_rep, Nat.mul_comm]; exact hz, _, r.rep k.toNat, IsTup.new _ _⟩, rfl, q2 e1 _ (I.hok.fresh (Nat.le_refl _))⟩
end
end L2

end
section
set_option Elab.async false
set_option linter.all false
set_option maxRecDepth 100000
set_option maxHeartbeats 4000000
namespace L2
open PySem PySem.Spec PyProof.Rows
/-! ### reversed of a tuple -/
theorem boot_reversed : bootBuiltins "reversed" = some (.type "reversed") := by decide +kernel
end L2

end
section
set_option Elab.async false
set_option linter.all false
set_option maxRecDepth 100000
set_option maxHeartbeats 4000000
namespace L2
open PySem PySem.Spec PyProof.Rows
/-! ### sorted of a list of fewer than 64 ints -/
theorem intsAreR : ∀ {ns : List Int} {us : List Value}, Vals (ns.map V.int) us → IntsAre us ns
  | [], [], _ => .nil
  | [], _ :: _, r => by cases r
  | _ :: _, [], r => by cases r
  | n :: ns, u :: us, .cons r t => by
    obtain ⟨tk, rfl⟩ := r
    exact .cons n tk (intsAreR t)
theorem vals_intsAre : ∀ {us : List Value} {ns : List Int}, IntsAre us ns → Vals (ns.map V.int) us
  | _, _, .nil => .nil
  | _, _, .cons n t h => .cons ⟨t, rfl⟩ (vals_intsAre h)
end L2

end
section
set_option Elab.async false
set_option linter.all false
set_option maxRecDepth 100000
set_option maxHeartbeats 4000000
namespace L2
open PySem PyProof.Rows
/-! ### tuples within tuples, alike -/
section
variable {X : Cx}
theorem vals_get {xs : List V} {us : List Value} (h : Vals xs us) {i : Nat} (hi : i < us.toArray.size) : ∃ x, xs[i]? = some x ∧ RelV x us.toArray[i] := by
  have hl := h.length
  rw [List.size_toArray] at hi
  have hx : xs[i]? = some (xs[i]'(by lia)) := List.getElem?_eq_getElem (by lia)
  have hu : us[i]? = some (us[i]) := List.getElem?_eq_getElem hi
  exact ⟨_, hx, h.getR i _ _ hx hu⟩
/-! ### a list that is [] -/
end
end L2

end
section
set_option Elab.async false
set_option linter.all false
set_option maxRecDepth 100000
set_option maxHeartbeats 4000000
namespace L2
open PySem PyProof.Rows
/-! ### sets of ints: the places of the table rise -/
noncomputable def Rise (xs : Array Nat) : Prop := xs.toList.Pairwise (· < ·)
theorem rise_get {xs : Array Nat} (h : Rise xs) {i j : Nat} (hij : i < j) (hj : j < xs.size) : xs[i]'(by lia) < xs[j] := by
  have := List.pairwise_iff_getElem.mp h i j (by simpa using (by lia : i < xs.size)) (by simpa using hj) hij
  simpa using this
theorem below_go {xs : Array Nat} (h : Rise xs) (j : Nat) : ∀ (fuel lo hi : Nat), hi - lo ≤ fuel → lo ≤ hi → hi ≤ xs.size →
    (∀ i (hi' : i < xs.size), i < lo → xs[i] < j) → (∀ i (hi' : i < xs.size), hi ≤ i → j ≤ xs[i]) →
    SetTable.below.go xs j fuel lo hi ≤ xs.size ∧ (∀ i (hi' : i < xs.size), i < SetTable.below.go xs j fuel lo hi → xs[i] < j) ∧ (∀ i (hi' : i < xs.size), SetTable.below.go xs j fuel lo hi ≤ i → j ≤ xs[i])
  | 0, lo, hi, hf, hl, hs, h1, h2 => by
    have e : lo = hi := by lia
    subst e
    exact ⟨hs, h1, h2⟩
  | fuel + 1, lo, hi, hf, hl, hs, h1, h2 => by
    unfold SetTable.below.go
    by_cases c : lo < hi
    · rw [if_pos c]
      have hm : (lo + hi) / 2 < xs.size := by lia
      have eg : xs.getD ((lo + hi) / 2) j = xs[(lo + hi) / 2] := by simp [Array.getD, hm]
      dsimp only
      rw [eg]
      by_cases d : xs[(lo + hi) / 2] < j
      · rw [if_pos d]
        refine below_go h j fuel _ _ (by lia) (by lia) hs (fun i hi' hlt => ?_) h2
        by_cases e : i = (lo + hi) / 2
        · subst e; exact d
        · exact Nat.lt_trans (rise_get h (by lia) hm) d
      · rw [if_neg d]
        refine below_go h j fuel _ _ (by lia) (by lia) (by lia) h1 fun i hi' hge => ?_
        by_cases e : i = (lo + hi) / 2
        · subst e; lia
        · have := rise_get h (show (lo + hi) / 2 < i by lia) hi'
          lia
    · rw [if_neg c]
      have e : lo = hi := by lia
      subst e
      exact ⟨hs, h1, h2⟩
theorem below_spec {xs : Array Nat} (h : Rise xs) (j : Nat) : SetTable.below xs j ≤ xs.size ∧ (∀ i (hi' : i < xs.size), i < SetTable.below xs j → xs[i] < j) ∧ (∀ i (hi' : i < xs.size), SetTable.below xs j ≤ i → j ≤ xs[i]) :=
  below_go h j xs.size 0 xs.size (by lia) (by lia) (Nat.le_refl _) (fun i _ hi => absurd hi (Nat.not_lt_zero _)) (fun i hi' hge => absurd hi' (by lia))
/-- one more place -/
theorem rise_insert {xs : Array Nat} (h : Rise xs) {j : Nat} (hn : xs[SetTable.below xs j]? ≠ some j) : Rise (SetTable.insertAt xs (SetTable.below xs j) j) := by
  obtain ⟨h1, h2, h3⟩ := below_spec h j
  generalize SetTable.below xs j = r at *
  unfold Rise
  rw [SetTable.toList_insertAt]
  have hd : ∀ y ∈ xs.toList.drop r, j < y := by
    intro y hy
    obtain ⟨i, hi, e⟩ := List.getElem_of_mem hy
    rw [List.getElem_drop] at e
    have hi2 : r + i < xs.size := by simp at hi; lia
    have e2 : y = xs[r + i] := by rw [← e]; simp
    have h4 := h3 (r + i) hi2 (by lia)
    have h5 : r < xs.size := by lia
    have h6 := h3 r h5 (Nat.le_refl _)
    have h7 : xs[r] ≠ j := fun q => hn (by rw [Array.getElem?_eq_getElem h5, q])
    by_cases c : i = 0
    · subst c; rw [e2]; simp only [Nat.add_zero]; lia
    · have := rise_get h (show r < r + i by lia) hi2
      rw [e2]; lia
  have ht : ∀ y ∈ xs.toList.take r, y < j := by
    intro y hy
    obtain ⟨i, hi, e⟩ := List.getElem_of_mem hy
    rw [List.getElem_take] at e
    have hi2 : i < xs.size := by simp at hi; lia
    have e2 : y = xs[i] := by rw [← e]; simp
    rw [e2]
    exact h2 i hi2 (by simp at hi; lia)
  refine List.pairwise_append.mpr ⟨List.Pairwise.sublist (List.take_sublist _ _) h, List.pairwise_cons.mpr ⟨hd, List.Pairwise.sublist (List.drop_sublist _ _) h⟩, fun a ha b hb => ?_⟩
  rcases List.mem_cons.mp hb with rfl | hb
  · exact ht a ha
  · exact Nat.lt_trans (ht a ha) (hd b hb)
theorem probe_go {t : SetTable} {f : Nat → Int} {h : Int} : ∀ (fuel : Nat) (p : SetTable.Probe) {j : Nat} {d : Option Nat}, (∀ e, p.dummy = some e → t.slot e = .dummy) → SetTable.probe.go t f h fuel p = some (.empty j d) → t.slot j = .empty ∧ ∀ e, d = some e → t.slot e = .dummy
  | 0, p, j, d, _, e => by cases e
  | fuel + 1, p, j, d, hp, e => by
    unfold SetTable.probe.go at e
    have adv : ∀ q : SetTable.Probe, (t.advance q).dummy = q.dummy := fun q => by unfold SetTable.advance; split <;> rfl
    cases hs : t.slot p.j with
    | empty => rw [hs] at e; cases e; exact ⟨hs, hp⟩
    | dummy =>
      rw [hs] at e
      refine probe_go fuel _ (fun x hx => ?_) e
      rw [adv] at hx; cases hx; exact hs
    | live i =>
      rw [hs] at e
      dsimp only at e
      split at e
      · cases e
      · refine probe_go fuel _ (fun x hx => ?_) e
        rw [adv] at hx; exact hp x hx
theorem free_slot {t : SetTable} {h : Int} {j : Nat} {b : Bool} (e : t.freeSlot h = some (j, b)) : ∀ i, t.slot j ≠ .live i := by
  unfold SetTable.freeSlot at e
  split at e
  · rename_i j' d hm
    obtain ⟨h1, h2⟩ := probe_go (t := t) _ _ (fun e he => by cases he) hm
    cases e
    intro i
    cases d with
    | none => show t.slot j' ≠ _; rw [h1]; exact fun q => nomatch q
    | some d => show t.slot d ≠ _; rw [h2 d rfl]; exact fun q => nomatch q
  · cases e
theorem slot_free {t : SetTable} {j : Nat} (h : ∀ i, t.slot j ≠ .live i) : t.place[SetTable.below t.place j]? ≠ some j := fun e => by
  refine h (SetTable.below t.place j) ?_
  unfold SetTable.slot
  dsimp only
  rw [if_pos (by rw [e]; exact beq_self_eq_true _)]
/-- a table's own word: led as told, and its places rise while it is plain -/
structure TabG (led : Bool) (t : SetTable) : Prop where
  led : t.led = led
  rise : t.plain = true → Rise t.place
theorem TabG.standIn {led : Bool} {t : SetTable} (h : TabG led t) (n : Nat) : TabG led (t.standIn n) := ⟨h.led, fun e => by cases e⟩
theorem tabG_new {led : Bool} {t : SetTable} (h : TabG led t) (es : Array (Int × Value)) (k : Int) (x : Value) : TabG led (layNew t es k x).2.1 := by
  unfold layNew
  split
  · rename_i slot wasDummy he
    dsimp only
    have hp : TabG led (t.put slot).1 := by
      refine ⟨h.led, fun e => ?_⟩
      exact rise_insert (h.rise e) (slot_free (free_slot he))
    unfold SetTable.orStandIn
    split
    · exact hp
    · exact hp.standIn _
  · exact h.standIn _
theorem tabG_relay {led : Bool} {t : SetTable} (h : TabG led t) (es : Array (Int × Value)) (n : Nat) : TabG led (relayAll t es n).2.1 := by
  unfold relayAll
  split
  · rename_i t' order he
    have ht : TabG led t' := by
      unfold SetTable.relaid SetTable.laid at he
      simp only [Option.bind_eq_bind, Option.bind_eq_some_iff] at he
      obtain ⟨owner, _, he⟩ := he
      cases he
      refine ⟨h.led, fun _ => ?_⟩
      unfold Rise
      dsimp only
      rw [List.pairwise_map, List.pairwise_filterMap]
      refine List.Pairwise.imp ?_ List.pairwise_lt_range
      intro a b hab x hx y hy
      cases h1 : owner.getD a none with
      | none => rw [h1] at hx; cases hx
      | some u =>
        cases h2 : owner.getD b none with
        | none => rw [h2] at hy; cases hy
        | some v => rw [h1] at hx; rw [h2] at hy; cases hx; cases hy; exact hab
    dsimp only
    split
    · exact ht
    · exact h.standIn _
  · exact h.standIn _
/-! ### a set of ints, with its table's word -/
section
variable {prog : Program} {w : World} {A : Around} {E : Value → Shared → Prop} {s : Shared}
noncomputable abbrev byText (w : World) : Bool := w.params.followText "set-order"
noncomputable def SetG (w : World) (prog : Program) (h : Heap) (a : Addr) (S : Int → Bool) (n : Nat) : Prop :=
  Ex4 fun o es ep t => h.get? a = some o ∧ o.ExactSet ∧ o.data = .set es ep t ∧ ElemsOf (intKind prog w) es.toList ∧ (∀ k, S k = true ↔ ∃ e ∈ es.toList, (intKind prog w).is k e.2 = true)
    ∧ es.size < scanBound ∧ t.fits es.size = true ∧ es.size = n ∧ TabG (!byText w) t
theorem store_get {h : Heap} {a : Addr} {o : Obj} {es : Array (Int × Value)} {ep : Nat} {t : SetTable} (ho : h.get? a = some o) (hd : o.data = .set es ep t) (es' : Array (Int × Value)) (t' : SetTable) :
    (h.update a (Obj.putSet es' t')).get? a = some { o with data := .set es' (ep + 1) t' } := by
  have := Heap.get?_update_self (Obj.putSet es' t') ho (by rw [putSet_of es' t' hd]; rfl)
  rw [putSet_of es' t' hd] at this; exact this
/-- one int more -/
theorem add_G {a : Addr} {S : Int → Bool} {n : Nat} {k : Int} {tk : Tok} {Q : Bool → Shared → Prop} (hS : SetG w prog s.heap a S n) (hroom : n + 1 < scanBound)
    (h : ∀ h' b, Heap.SameBut a s.heap h' → SetG w prog h' a (fun k' => S k' || decide (k' = k)) (if S k then n else n + 1) → Q b { s with heap := h' }) :
    wpAny (model prog w) A (setAddHashed a (.int k tk) ((intKind prog w).hash k)) Q E s := by
  obtain ⟨o, es, ep, t, ho, hex, hd, hel, hmem, hb, hf, hn, hG⟩ := hS
  have hkey : (intKind prog w).is k (.int k tk) = true := intKind_is _ _ _ _
  have hsc : (Value.int k tk).scannable = true := rfl
  unfold setAddHashed setAddHashedIn
  refine wpAny_holding (wpAny_bind (wpAny_setState_of ho hd hf ?_))
  dsimp only
  rw [byScan_of hsc hb hel, if_pos rfl]
  unfold setAddByScan
  refine wpAny_bind (wpAny_bind (wpAny_rule (wpAny_bind (wpAny_setScan_of hkey ho hd hf hel ?_))))
  cases hr : List.findIdx? (fun e => (intKind prog w).is k e.2) es.toList with
  | some j =>
    obtain ⟨hj, hpj, _⟩ := List.findIdx?_eq_some_iff_getElem.mp hr
    have hSk : S k = true := (hmem k).mpr ⟨es.toList[j], List.getElem_mem hj, hpj⟩
    refine wpAny_pure (wpAny_pure ?_)
    have h1 := h s.heap false (Heap.SameBut.refl a s.heap) ⟨o, es, ep, t, ho, hex, hd, hel, fun k' => by
      rw [Bool.or_eq_true, decide_eq_true_eq, ← hmem k']
      exact ⟨fun hk => hk.elim id (fun e => e ▸ hSk), .inl⟩, hb, hf, by rw [hSk]; exact hn, hG⟩
    exact h1
  | none =>
    have hSk : S k = false := by
      cases hk : S k with
      | false => rfl
      | true =>
        obtain ⟨e, he, hp⟩ := (hmem k).mp hk
        have := List.findIdx?_eq_none_iff.mp hr e he
        rw [hp] at this; cases this
    have hperm := layNew_perm t es ((intKind prog w).hash k) (.int k tk)
    have hfits := layNew_fits t es ((intKind prog w).hash k) (.int k tk)
    have hG1 := tabG_new hG es ((intKind prog w).hash k) (.int k tk)
    dsimp only
    generalize layNew t es ((intKind prog w).hash k) (.int k tk) = L at hperm hfits hG1 ⊢
    obtain ⟨es1, t1, wasDummy, gave⟩ := L
    dsimp only at hperm hfits hG1 ⊢
    rw [Array.toList_push] at hperm
    have hel1 : ElemsOf (intKind prog w) es1.toList := (hel.push hkey hsc).perm hperm
    have hmem1 : ∀ k', (S k' || decide (k' = k)) = true ↔ ∃ e ∈ es1.toList, (intKind prog w).is k' e.2 = true := mem_push_iff hkey hmem hperm
    have hsz1 : es1.size = n + 1 := by rw [← Array.length_toList, hperm.length_eq, List.length_append, Array.length_toList, hn]; rfl
    have hz : es1.size ≤ sizeLine := fits_of_scanBound (by lia)
    have en : (if S k = true then n else n + 1) = n + 1 := by rw [hSk]; rfl
    rw [en] at h
    -- the end, by any table of the same word
    have fin : ∀ t2 : SetTable, TabG (!byText w) t2 → t2.fits es1.size = true → wpAny (model prog w) A (storeSet a es1 t2 >>= fun _ => if (!wasDummy && t2.tooFull) = true then
          (match (relayAll t2 es1 (SetTable.grown es1.size)).2.2 with | true => rule "set.scan.the-table-gave-way" | false => pure ()) >>= fun _ => storeSet a (relayAll t2 es1 (SetTable.grown es1.size)).1 (relayAll t2 es1 (SetTable.grown es1.size)).2.1 >>= fun _ => pure (some true)
        else pure (some true)) (fun r s' => ∃ h', s' = { s with heap := h' } ∧ r = some true ∧ Heap.SameBut a s.heap h' ∧ SetG w prog h' a (fun k' => S k' || decide (k' = k)) (n + 1)) E s := by
      intro t2 g2 f2
      refine wpAny_bind (wpAny_storeSet_of ho hd ?_ hz)
      have o1 := store_get ho hd es1 t2
      have b1 := Heap.SameBut.update s.heap a (Obj.putSet es1 t2)
      split
      · have hp := relayAll_perm t2 es1 (SetTable.grown es1.size)
        have hfr := relayAll_fits t2 es1 (SetTable.grown es1.size)
        have g3 := tabG_relay g2 es1 (SetTable.grown es1.size)
        generalize relayAll t2 es1 (SetTable.grown es1.size) = Rl at hp hfr g3 ⊢
        obtain ⟨es2, t3, gave2⟩ := Rl
        dsimp only at hp hfr g3 ⊢
        have hsz : es2.size = es1.size := by rw [← Array.length_toList, hp.length_eq, Array.length_toList]
        have rest : wpAny (model prog w) A (storeSet a es2 t3 >>= fun _ => pure (some true)) (fun r s' => ∃ h', s' = { s with heap := h' } ∧ r = some true ∧ Heap.SameBut a s.heap h' ∧ SetG w prog h' a (fun k' => S k' || decide (k' = k)) (n + 1)) E { s with heap := s.heap.update a (Obj.putSet es1 t2) } := by
          refine wpAny_bind (wpAny_storeSet_of o1 rfl ?_ (by lia))
          exact wpAny_pure ⟨_, rfl, rfl, b1.trans (Heap.SameBut.update _ a _), _, es2, _, t3, store_get o1 rfl es2 t3, hex, rfl, hel1.perm hp, fun k' => (hmem1 k').trans ⟨fun ⟨e, he, q⟩ => ⟨e, hp.mem_iff.mpr he, q⟩, fun ⟨e, he, q⟩ => ⟨e, hp.mem_iff.mp he, q⟩⟩, by lia, hfr, by lia, g3⟩
        cases gave2
        · exact wpAny_bind (wpAny_pure rest)
        · exact wpAny_bind (wpAny_rule rest)
      · exact wpAny_pure ⟨_, rfl, rfl, b1, _, es1, _, t2, o1, hex, rfl, hel1, hmem1, by lia, f2, hsz1, g2⟩
    have hgw : ∀ (b : Bool) {s₁ : Shared} {Q' : Unit → Shared → Prop}, Q' () s₁ → wpAny (model prog w) A (match b with | true => rule "set.scan.the-table-gave-way" | false => pure ()) Q' E s₁ :=
      fun b s₁ Q' hq => by cases b <;> first | exact wpAny_pure hq | exact wpAny_rule hq
    refine wpAny_bind (hgw gave ?_)
    split
    · refine wpAny_bind ?_
      rw [hashByValue_scannable 8 hsc]
      refine wpAny_pure ?_
      refine thn (fin t1 hG1 hfits) fun r s' hq => ?_
      obtain ⟨h', e1, e2, b, g⟩ := hq
      subst e1; subst e2
      exact wpAny_pure (h h' true b g)
    · refine wpAny_bind (wpAny_pure ?_)
      refine thn (fin t1 hG1 hfits) fun r s' hq => ?_
      obtain ⟨h', e1, e2, b, g⟩ := hq
      subst e1; subst e2
      exact wpAny_pure (h h' true b g)
theorem SetG.at {h h' : Heap} {a : Addr} {S : Int → Bool} {n : Nat} (x : SetG w prog h a S n) (e : ∀ o, h.get? a = some o → h'.get? a = some o) : SetG w prog h' a S n := by
  obtain ⟨o, es, ep, t, ho, r⟩ := x
  exact ⟨o, es, ep, t, e o ho, r⟩
theorem SetG.congr {h : Heap} {a : Addr} {S S' : Int → Bool} {n n' : Nat} (x : SetG w prog h a S n) (e : ∀ k, S k = S' k) (en : n = n') : SetG w prog h a S' n' := by
  have : S = S' := funext e
  subst this; subst en; exact x
section
variable {R : Result → Shared → Prop} {I : Addr} {fp wr : List Addr} {G : Array GenState → Array GenState → Prop} {n : Nat} {P : Nat → Value → Prop} {St : Nat → Shared → Prop}
/-- the ints of a walk put into a set, one by one -/
theorem loop_G (W : WalksS prog w A.in1 I fp wr G n P St) (S : Addr) (hSf : S ∉ fp) (val : Nat → Int) (hval : ∀ i v, P i v → ∃ t, v = .int (val i) t) (hb : n + 1 < scanBound) : ∀ (k i : Nat) (s : Shared), n - i = k → i ≤ n → St i s →
      SetG w prog s.heap S (fun k' => (firstMet val i).any (· == k')) (firstMet val i).length →
      (∀ s', Moved (S :: wr) G s s' → SetG w prog s'.heap S (fun k' => (firstMet val n).any (· == k')) (firstMet val n).length → R (.ok (.ret .none)) s') →
      codeAny (model prog w) A (.builtin "set.update.loop" ⟨[.ref S, .ref I], []⟩) R s := by
  have hSw : S ∉ wr := fun h => hSf (W.sub _ h)
  have hsub : ∀ b ∈ wr, b ∈ S :: wr := fun b hb => List.mem_cons_of_mem _ hb
  intro k
  induction k with
  | zero =>
    intro i s hk hi hst hS hR
    obtain rfl : i = n := by lia
    refine codeAny_builtin F.entry_set_update_loop ?_
    rw [Around.under_plainId F.plain_set_update_loop _]
    show wpAny _ A.in1 (pyNext (.ref I) >>= _) _ _ s
    refine wpAny_bind (W.done s _ _ hst fun s' hm => ?_)
    exact wpAny_pure (hR s' (hm.mono hsub) (hS.at fun o e => hm.heap S o hSw e))
  | succ k ih =>
    intro i s hk hi hst hS hR
    have hlt : i < n := by lia
    refine codeAny_builtin F.entry_set_update_loop ?_
    rw [Around.under_plainId F.plain_set_update_loop _]
    show wpAny _ A.in1 (pyNext (.ref I) >>= _) _ _ s
    refine wpAny_bind (W.item i s _ _ hlt hst fun v s' hP hst' hm => ?_)
    obtain ⟨t, rfl⟩ := hval i v hP
    have hS' := hS.at (h' := s'.heap) fun o e => hm.heap S o hSw e
    show wpAny _ A.in1 (holding [Value.int (val i) t] (setAdd S (.int (val i) t)) >>= _) _ _ s'
    refine wpAny_bind (wpAny_holding ?_)
    unfold setAdd
    refine wpAny_holding (wpAny_bind ((intKind prog w).pyHash (k := val i) (intKind_is _ _ _ _) ?_))
    have hroom : (firstMet val i).length + 1 < scanBound := by have := firstMet_length_le val i; lia
    refine add_G (s := { s' with toks := s'.toks + 1 }) hS' hroom fun h' b hsb hS2 => ?_
    have hSi : SetG w prog h' S (fun k' => (firstMet val (i + 1)).any (· == k')) (firstMet val (i + 1)).length := hS2.congr (fun k' => by rw [firstMet_succ, step_any]) (by rw [firstMet_succ, step_length])
    refine wpAny_pure ⟨plainId_quiet F.plain_set_update_loop _, ih (i + 1) _ (by lia) hlt (W.frame _ s' _ _ hst' (Nat.le_succ _) fun b hb o e => ?_) hSi fun s'' hm'' hS'' => ?_⟩
    · rw [hsb.2 b (fun h : b = S => hSf (by rw [← h]; exact hb))]; exact e
    · refine hR s'' (Moved.trans W.gtrans ((hm.mono hsub).then_heap (Nat.le_succ _) fun b o hb e => ?_) hm'') hS''
      rw [hsb.2 b (fun h : b = S => hb (by rw [h]; exact List.mem_cons_self))]; exact e
end
noncomputable abbrev newSetO (w : World) : Obj := { cls := .type "set", dict := none, data := .set #[] 0 (.fresh 0 0 (!byText w)) }
theorem newSet_G {h : Heap} {a : Addr} (e : h.get? a = some (newSetO w)) : SetG w prog h a (fun _ => false) 0 :=
  ⟨_, #[], 0, _, e, ⟨rfl, rfl, rfl⟩, rfl, fun e he => by simp at he, fun k => by simp, by decide, by rfl, rfl, ⟨rfl, fun _ => List.Pairwise.nil⟩⟩
theorem set_new_G (a : Value) {Q₁ : Value → Shared → Prop} (h : Q₁ (.ref s.heap.objs.size) { s with heap := s.heap.push (newSetO w) }) :
    codeAny (model prog w) A (.call (.builtin "set.__new__") ⟨[.type "set", a], []⟩) (wants Q₁ E) s := by
  refine codeAny_of_tree ?_
  show wpAny _ A.in1 (do checkBuiltinCall "set.__new__" ⟨[.type "set", a], []⟩; again (.builtin "set.__new__" ⟨[.type "set", a], []⟩)) _ _ s
  refine wpAny_bind (wpAny_of_eq (F.newCall_set_1 a) (wpAny_pure ⟨plainId_quiet F.plain_set_new _, codeAny_builtin F.entry_set_new ?_⟩))
  rw [Around.under_plainId F.plain_set_new _]
  unfold Builtin.«set.__new__» Builtin.Frozenset.newClass
  have hsub := sub_set_self
  obtain ⟨hp, g, d, tk, os⟩ := s
  dsimp only
  wp_walk
  refine wpAny_askSetting (wpAny_pure ?_)
  dsimp only
  simp only [newObj]
  refine wpAny_bind (wpAny_alloc (wpAny_pure ?_))
  exact wpAny_pure h
set_option maxHeartbeats 8000000 in
/-- set(a list of ints) -/
theorem call_set_G {l : Addr} {items : Array Value} {ns : List Int} {Q : Value → Shared → Prop} (hh : A.handled = none) (hl : s.heap.IsList l items) (hi : IntsAre items.toList ns) (hb : items.size + 1 < scanBound)
    (h : ∀ (h' : Heap) (tk : Nat), SetG w prog h' s.heap.objs.size (fun k' => (firstMet (fun i => ns.getD i 0) items.size).any (· == k')) (firstMet (fun i => ns.getD i 0) items.size).length →
      (∀ b o, s.heap.get? b = some o → h'.get? b = some o) → Q (.ref s.heap.objs.size) { s with heap := h', toks := tk }) :
    wpAny (model prog w) A (call (.type "set") [.ref l]) Q E s := by
  obtain ⟨c, tl, hmro⟩ := F.called_set.mro
  have hmade := F.called_set.made
  have hsub := F.called_set.sub
  refine wpAny_call (codeAny_of_tree ?_)
  show wpAny _ _ (callAny (.type "set") _) _ _ _
  refine wpAny_pure ⟨Code.quiet_builtin _ (by decide +kernel), codeAny_builtin F.entry_type_call ?_⟩
  rw [Around.under_plain (weight_type_call_type "set" [.ref l] []) rfl]
  have h1 := F.called_set.notType
  have h2 := F.called_set.canCreate
  have hct := F.typeCall_set_1 (.ref l)
  repeat (any_goals (first | assumption | wp_step))
  refine codeAny_mono (set_new_G (.ref l) (E := E) (Q₁ := fun obj s₁ => obj = .ref s.heap.objs.size ∧ s₁ = { s with heap := s.heap.push (newSetO w) }) ⟨rfl, rfl⟩) fun r s₁ hr => ?_
  cases r with
  | error e => exact hr
  | ok fl =>
    cases fl with
    | ret obj =>
      obtain ⟨rfl, rfl⟩ := hr
      have hS : (s.heap.push (newSetO w)).get? s.heap.objs.size = some (newSetO w) := Heap.get?_push_size _ rfl
      have hT : Shared.TypeIs { s with heap := s.heap.push (newSetO w) } (.ref s.heap.objs.size) "set" := ⟨_, hS, rfl⟩
      have hli := F.called_set.init.lookup
      have hbi := F.called_set.init.bind (.ref s.heap.objs.size)
      repeat (any_goals (first | assumption | wp_step))
      refine codeAny_mono (codeAny_call_builtin (R := wants (fun r s₂ => r = .none ∧ Ex2 fun h' tk => s₂ = { s with heap := h', toks := tk } ∧
          SetG w prog h' s.heap.objs.size (fun k' => (firstMet (fun i => ns.getD i 0) items.size).any (· == k')) (firstMet (fun i => ns.getD i 0) items.size).length ∧
          (∀ b o, s.heap.get? b = some o → h'.get? b = some o)) E) F.called_set.init.plain F.entry_set_init (check_set_init_1 hT ?_)) fun r₂ s₂ hr₂ => ?_
      · obtain ⟨ol, hol, hcl, nl, hdl⟩ := hl
        obtain ⟨ocls, odict, odata, oslots⟩ := ol
        simp only at hcl hdl
        subst hcl; subst hdl
        have hol' : (s.heap.push (newSetO w)).get? l = some { cls := .type "list", dict := odict, data := .seq items nl, slots := oslots } := Heap.get?_push_of_some _ hol
        have hsls := F.sub_list_set
        have hslf := F.sub_list_frozenset
        have hne : (Value.type "list" == Value.type "dict") = false := by decide
        have hl1 : (s.heap.push (newSetO w)).IsList l items := ⟨_, hol', rfl, nl, rfl⟩
        unfold Builtin.«set.__init__» noKeywords Builtin.Frozenset.updateFrom
        generalize hPI : pyIter = PI
        wp_walk
        subst hPI
        refine wpAny_pyIter_list hl1 ?_
        refine wpAny_bind (wpAny_runValue ?_)
        have hlS : l < s.heap.objs.size := Heap.lt_size hol
        have hneI : l ≠ (s.heap.push (newSetO w)).objs.size := by rw [Heap.size_push]; exact Nat.ne_of_lt (Nat.lt_succ_of_lt hlS)
        have hSf : s.heap.objs.size ∉ [(s.heap.push (newSetO w)).objs.size, l] := by
          rw [Heap.size_push]; simp only [List.mem_cons, List.not_mem_nil, or_false, not_or]
          exact ⟨Nat.ne_of_lt (Nat.lt_succ_self _), Nat.ne_of_gt hlS⟩
        refine loop_G ((Walks.list (by simp [hh]) _ l hneI items).toS) s.heap.objs.size hSf (fun i => ns.getD i 0) (fun i v hv => IntsAre.int_at hi i v (by rw [Array.getElem?_toList]; exact hv)) hb (items.size - 0) 0 _ (by lia) (Nat.zero_le _)
          ⟨⟨_, Heap.get?_push_size _ rfl, rfl, rfl⟩, (hl1.push _)⟩ ((newSet_G (Heap.get?_push_of_some _ hS)).congr (fun _ => rfl) rfl) fun s' hm hS' => ?_
        obtain ⟨h', g', d', tk', os'⟩ := s'
        obtain rfl : g' = s.gens := hm.gens
        obtain rfl : d' = s.drawn := hm.drawn
        obtain rfl : os' = s.os := hm.os
        show wpAny _ _ _ _ _ _
        refine wpAny_pure ?_
        show wpAny _ _ (ret Value.none) _ _ _
        refine wpAny_pure ⟨rfl, h', tk', rfl, hS', fun b o e => ?_⟩
        have hb := Heap.lt_size e
        refine hm.heap b o ?_ (Heap.get?_push_of_some _ (Heap.get?_push_of_some _ e))
        simp only [List.mem_cons, List.not_mem_nil, or_false, not_or]
        rw [Heap.size_push]
        exact ⟨Nat.ne_of_lt hb, Nat.ne_of_lt (Nat.lt_succ_of_lt hb)⟩
      · cases r₂ with
        | error e => exact hr₂
        | ok fl₂ =>
          cases fl₂ with
          | ret r =>
            obtain ⟨rfl, h', tk, rfl, hS', hk'⟩ := hr₂
            repeat (any_goals (first | assumption | wp_step))
            exact h _ _ hS' hk'
          | _ => exact hr₂.elim
    | _ => exact hr.elim
end
end L2

end
section
set_option Elab.async false
set_option linter.all false
set_option maxRecDepth 100000
set_option maxHeartbeats 4000000
namespace L2
open PySem PyProof.Rows
/-! ### walking a set -/
theorem owner_set_iterator : Manifest.owners.lookup (String.ofList ['r', 'o', 't', 'a', 'r', 'e', 't', 'i', '_', 't', 'e', 's'].reverse) = some Manifest.sig_set_iterator := by kernel_rfl
theorem slot_si_next : Slot "set_iterator" "__next__" "set_iterator.__next__" :=
  .of (owner := "set_iterator") (n := "__next__") (by rw [typeLookup_type, builtinLookup_eq_fast]; kernel_rfl) (by decide +kernel) (by decide +kernel) (by decide +kernel)
    (by first | exact .inl (by decide +kernel) | exact .inr (by decide +kernel)) (by rw [isSubtype_type]; kernel_rfl)
theorem entry_si_next : entryFor table "set_iterator.__next__" = some Builtin.«set_iterator.__next__» := entryFor_of_tree (by kernel_rfl)
theorem args_si_next_1 (a : Value) : argsOk "set_iterator.__next__" ⟨[a], []⟩ := by
  unfold argsOk; rw [signature?_of (id := "set_iterator.__next__") (n := ['_', '_', 't', 'x', 'e', 'n', '_', '_']) (o := ['r', 'o', 't', 'a', 'r', 'e', 't', 'i', '_', 't', 'e', 's']) (by kernel_rfl) owner_set_iterator]; kernel_rfl
theorem entry_set_iter : entryFor table "set.__iter__" = some Builtin.«frozenset.__iter__» :=
  entryFor_alias (id' := "frozenset.__iter__") (by kernel_rfl) (by first | rfl | decide +kernel | (unfold String.splitOn; simp +decide [String.splitOnAux])) (by decide +kernel) (by kernel_rfl)
noncomputable def IsSI (h : Heap) (I S : Addr) (first : Value) (i n ep : Nat) : Prop := ∃ o, h.get? I = some o ∧ o.cls = .type "set_iterator" ∧ o.data = .fields #[first, rawInt i, .ref S, rawInt n, rawInt ep]
theorem IsSI.at {h h' : Heap} {I S : Addr} {first : Value} {i n ep : Nat} (x : IsSI h I S first i n ep) (e : ∀ o, h.get? I = some o → h'.get? I = some o) : IsSI h' I S first i n ep := let ⟨o, ho, r⟩ := x; ⟨o, e _ ho, r⟩
noncomputable def SetAt (h : Heap) (S : Addr) (es : Array (Int × Value)) (ep : Nat) (t : SetTable) : Prop := ∃ o, h.get? S = some o ∧ o.data = .set es ep t ∧ t.fits es.size = true
theorem SetAt.at {h h' : Heap} {S : Addr} {es : Array (Int × Value)} {ep : Nat} {t : SetTable} (x : SetAt h S es ep t) (e : ∀ o, h.get? S = some o → h'.get? S = some o) : SetAt h' S es ep t := let ⟨o, ho, r⟩ := x; ⟨o, e _ ho, r⟩
section
variable {prog : Program} {w : World} {A : Around} {E : Value → Shared → Prop} {s : Shared}
theorem IsSI.typeIs {I S : Addr} {first : Value} {i n ep : Nat} (x : IsSI s.heap I S first i n ep) : s.TypeIs (.ref I) "set_iterator" := let ⟨o, ho, hc, _⟩ := x; ⟨o, ho, hc⟩
/-- what setNext tells -/
noncomputable def Tells (prog : Program) (w : World) (s : Shared) (S : Addr) (slot i ep : Nat) (r : Option (Value × Nat)) : Prop := ∀ (A : Around) (E : Value → Shared → Prop) (Q : Option (Value × Nat) → Shared → Prop), Q r s → wpAny (model prog w) A (setNext S slot i ep) Q E s
theorem next_si {I S : Addr} {slot i ep nx : Nat} {es : Array (Int × Value)} {t : SetTable} {x : Value} {Q : Option Value → Shared → Prop} (hit : IsSI s.heap I S (rawInt slot) i es.size ep) (hs : SetAt s.heap S es ep t) (hT : Tells prog w s S slot i ep (some (x, nx)))
    (hQ : ∀ h', IsSI h' I S (rawInt nx) (i + 1) es.size ep → Heap.SameBut I s.heap h' → Q (some x) { s with heap := h' }) : wpAny (model prog w) A (pyNext (.ref I)) Q E s := by
  obtain ⟨o, ho, hc, hd⟩ := id hit
  obtain ⟨os, hos, hds, hf⟩ := id hs
  unfold pyNext
  refine wpAny_bind (wpAny_attempt (wpAny_callSpecial?_slot (name := Str.ofString "__next__") hit.typeIs slot_si_next
    (wpAny_call_entry slot_si_next hit.typeIs entry_si_next ?_ (args_si_next_1 _))))
  unfold Builtin.«set_iterator.__next__»
  refine wpAny_bind (wpAny_of_eq (a := (Value.ref I, [])) rfl ?_)
  try dsimp only
  refine wpAny_bind (wpAny_fieldsOf ho hd ?_)
  simp only [rawInt]
  refine wpAny_bind (wpAny_setEntries_of hos hds hf ?_)
  refine wpAny_ite_split (fun h => absurd h (by simp)) (fun _ => ?_)
  refine wpAny_bind (hT _ _ _ ?_)
  dsimp only
  refine wpAny_bind (wpAny_setField ho hd (by simp) ?_)
  have h1 := Heap.get?_update_self (Obj.mapFields (fun vs => vs.setIfInBounds 0 (Value.int nx 0))) ho (Obj.isFreed_of_fields (Obj.data_mapFields hd _))
  refine wpAny_bind (wpAny_setField h1 (Obj.data_mapFields hd _) (by simp) ?_)
  refine wpAny_pure ⟨x, rfl, wpAny_pure (hQ _ ?_ ((Heap.SameBut.update ..).trans (Heap.SameBut.update ..)))⟩
  exact ⟨_, Heap.get?_update_self _ h1 (Obj.isFreed_of_fields (Obj.data_mapFields (Obj.data_mapFields hd _) _)), (Obj.cls_mapFields ..).trans ((Obj.cls_mapFields ..).trans hc), by rw [Obj.data_mapFields (Obj.data_mapFields hd _)]; simp [rawInt]⟩
/-- the end of a walk: StopIteration behind one field's change -/
theorem stop_si {I : Addr} {Q : Option Value → Shared → Prop} (hh : A.handled = none) {s1 : Shared} (hQ : ∀ h' tk, (∀ b o, s1.heap.get? b = some o → h'.get? b = some o) → Q none { s1 with heap := h', toks := tk }) :
    wpAny (model prog w) A.in1 (newExc (.type "StopIteration") [] >>= fun e => raiseNew e) (fun fin s' => ∃ v, fin = Fin.done (Flow.ret v) ∧ wpAny (model prog w) A (pure (some v)) Q E s')
      (fun e s' => wpAny (model prog w) A (do if (← isInstance e (.type "StopIteration")) = true then pure none else throw e) Q E s') s1 := by
  refine wpAny_bind ?_
  simp only [newExc, newTuple]
  refine wpAny_bind (wpAny_newObj_type ?_ (by size_fits))
  refine wpAny_bind (m := firstArgMember _ _) (wpAny_of_eq (a := Value.none) (by first | rfl | (simp only [firstArgMember]; rfl)) ?_)
  refine wpAny_newObj_type ?_ (by size_fits)
  simp only [raiseNew]
  refine wpAny_bind (wpAny_handled ?_)
  first | rw [show A.in1.handled = none from hh] | rw [hh]
  refine wpAny_bind (wpAny_pure (wpAny_throw ?_))
  refine wpAny_bind (wpAny_isInstance (T := "StopIteration") (b := true) ⟨_, Heap.get?_push_size _ rfl, rfl⟩ isSubtype_stop ?_)
  exact wpAny_pure (hQ _ _ fun b o' e => Heap.get?_push_of_some _ (Heap.get?_push_of_some _ e))
theorem end_si {I S : Addr} {slot i ep : Nat} {es : Array (Int × Value)} {t : SetTable} {Q : Option Value → Shared → Prop} (hh : A.handled = none) (hit : IsSI s.heap I S (rawInt slot) i es.size ep) (hs : SetAt s.heap S es ep t) (hT : Tells prog w s S slot i ep none)
    (hQ : ∀ h' tk, Heap.ExtBut I s.heap h' → Q none { s with heap := h', toks := tk }) : wpAny (model prog w) A (pyNext (.ref I)) Q E s := by
  obtain ⟨o, ho, hc, hd⟩ := id hit
  obtain ⟨os, hos, hds, hf⟩ := id hs
  unfold pyNext
  refine wpAny_bind (wpAny_attempt (wpAny_callSpecial?_slot (name := Str.ofString "__next__") hit.typeIs slot_si_next
    (wpAny_call_entry slot_si_next hit.typeIs entry_si_next ?_ (args_si_next_1 _))))
  unfold Builtin.«set_iterator.__next__»
  refine wpAny_bind (wpAny_of_eq (a := (Value.ref I, [])) rfl ?_)
  try dsimp only
  refine wpAny_bind (wpAny_fieldsOf ho hd ?_)
  simp only [rawInt]
  refine wpAny_bind (wpAny_setEntries_of hos hds hf ?_)
  refine wpAny_ite_split (fun h => absurd h (by simp)) (fun _ => ?_)
  refine wpAny_bind (hT _ _ _ ?_)
  dsimp only
  refine wpAny_bind (wpAny_setField ho hd (by simp) ?_)
  refine stop_si (I := I) hh fun h' tk k => hQ h' tk fun b o' hb e => k b o' ((Heap.get?_update_other _ _ (Ne.symm hb)).trans e)
/-! the walk by drawn places -/
theorem next_sd {I S T : Addr} {i ep pl : Nat} {es : Array (Int × Value)} {t : SetTable} {places : Array Value} {kx : Int × Value} {tk : Tok} {Q : Option Value → Shared → Prop} (hit : IsSI s.heap I S (.ref T) i es.size ep) (hs : SetAt s.heap S es ep t) (ht : s.heap.IsTuple T places)
    (hp : places[i]? = some (.int pl tk)) (hx : es[pl]? = some kx)
    (hQ : ∀ h', IsSI h' I S (.ref T) (i + 1) es.size ep → Heap.SameBut I s.heap h' → Q (some kx.2) { s with heap := h' }) : wpAny (model prog w) A (pyNext (.ref I)) Q E s := by
  obtain ⟨o, ho, hc, hd⟩ := id hit
  obtain ⟨os, hos, hds, hf⟩ := id hs
  obtain ⟨ot, hot, hct, nt, hdt⟩ := id ht
  unfold pyNext
  refine wpAny_bind (wpAny_attempt (wpAny_callSpecial?_slot (name := Str.ofString "__next__") hit.typeIs slot_si_next
    (wpAny_call_entry slot_si_next hit.typeIs entry_si_next ?_ (args_si_next_1 _))))
  unfold Builtin.«set_iterator.__next__»
  refine wpAny_bind (wpAny_of_eq (a := (Value.ref I, [])) rfl ?_)
  try dsimp only
  refine wpAny_bind (wpAny_fieldsOf ho hd ?_)
  simp only [rawInt]
  refine wpAny_bind (wpAny_setEntries_of hos hds hf ?_)
  refine wpAny_ite_split (fun h => absurd h (by simp)) (fun _ => ?_)
  unfold seqItems?
  refine wpAny_bind (wpAny_bind (wpAny_load hot ?_))
  rw [hdt]
  refine wpAny_pure ?_
  dsimp only
  rw [Int.toNat_natCast, hp]
  dsimp only
  unfold setNextDrawn
  refine wpAny_bind (wpAny_bind (wpAny_setState_of hos hds hf ?_))
  dsimp only
  refine wpAny_ite_split (fun h => absurd h (by simp)) (fun _ => ?_)
  rw [Int.toNat_natCast, hx]
  obtain ⟨k0, x⟩ := kx
  refine wpAny_pure ?_
  refine wpAny_bind (wpAny_setField ho hd (by simp) ?_)
  refine wpAny_pure ⟨x, rfl, wpAny_pure (hQ _ ?_ (Heap.SameBut.update ..))⟩
  exact ⟨_, Heap.get?_update_self _ ho (Obj.isFreed_of_fields (Obj.data_mapFields hd _)), (Obj.cls_mapFields ..).trans hc, by rw [Obj.data_mapFields hd]; simp [rawInt]⟩
theorem end_sd {I S T : Addr} {i ep : Nat} {es : Array (Int × Value)} {t : SetTable} {places : Array Value} {Q : Option Value → Shared → Prop} (hh : A.handled = none) (hit : IsSI s.heap I S (.ref T) i es.size ep) (hs : SetAt s.heap S es ep t) (ht : s.heap.IsTuple T places)
    (hp : places[i]? = none) (hQ : ∀ h' tk, Heap.ExtBut I s.heap h' → Q none { s with heap := h', toks := tk }) : wpAny (model prog w) A (pyNext (.ref I)) Q E s := by
  obtain ⟨o, ho, hc, hd⟩ := id hit
  obtain ⟨os, hos, hds, hf⟩ := id hs
  obtain ⟨ot, hot, hct, nt, hdt⟩ := id ht
  unfold pyNext
  refine wpAny_bind (wpAny_attempt (wpAny_callSpecial?_slot (name := Str.ofString "__next__") hit.typeIs slot_si_next
    (wpAny_call_entry slot_si_next hit.typeIs entry_si_next ?_ (args_si_next_1 _))))
  unfold Builtin.«set_iterator.__next__»
  refine wpAny_bind (wpAny_of_eq (a := (Value.ref I, [])) rfl ?_)
  try dsimp only
  refine wpAny_bind (wpAny_fieldsOf ho hd ?_)
  simp only [rawInt]
  refine wpAny_bind (wpAny_setEntries_of hos hds hf ?_)
  refine wpAny_ite_split (fun h => absurd h (by simp)) (fun _ => ?_)
  unfold seqItems?
  refine wpAny_bind (wpAny_bind (wpAny_load hot ?_))
  rw [hdt]
  refine wpAny_pure ?_
  dsimp only
  rw [Int.toNat_natCast, hp]
  dsimp only
  refine wpAny_bind (wpAny_setField ho hd (by simp) ?_)
  have h1 := Heap.get?_update_self (Obj.mapFields (fun vs => vs.setIfInBounds 0 (Value.int 0 0))) ho (Obj.isFreed_of_fields (Obj.data_mapFields hd _))
  refine wpAny_bind (wpAny_setField h1 (Obj.data_mapFields hd _) (by simp) ?_)
  refine stop_si (I := I) hh fun h' tk k => hQ h' tk fun b o' hb e => k b o' ((Heap.get?_update_other _ _ (Ne.symm hb)).trans ((Heap.get?_update_other _ _ (Ne.symm hb)).trans e))
/-! what the table's walk tells -/
theorem tells_text {S : Addr} {es : Array (Int × Value)} {ep : Nat} {t : SetTable} (hs : SetAt s.heap S es ep t) (hb : byText w = true) (slot i : Nat) : Tells prog w s S slot i ep (((pickOrder (w.params.setOrder S ep) es)[i]?).map fun e => (e.2, slot)) := by
  intro A E Q hQ
  obtain ⟨os, hos, hds, hf⟩ := id hs
  unfold setNext setWalk setsByText
  refine wpAny_bind (wpAny_setState_of hos hds hf ?_)
  dsimp only
  refine wpAny_bind (wpAny_bind (wpAny_askSetting (wpAny_pure ?_)))
  refine wpAny_ite_split (fun _ => ?_) (fun h => absurd hb h)
  refine wpAny_ite_split (fun h => absurd h (by simp)) (fun _ => ?_)
  refine wpAny_bind (wpAny_bind (wpAny_setState_of hos hds hf ?_))
  dsimp only
  refine wpAny_bind (wpAny_bind (wpAny_askSetting (wpAny_pure ?_)))
  refine wpAny_ite_split (fun _ => ?_) (fun h => absurd hb h)
  refine wpAny_bind (wpAny_askSetting ?_)
  exact wpAny_pure (wpAny_pure hQ)
theorem tells_plain {S : Addr} {es : Array (Int × Value)} {ep : Nat} {t : SetTable} (hs : SetAt s.heap S es ep t) (hb : byText w = false) (hl : t.led = true) (hp : t.plain = true ∨ es.size ≤ 1) (slot i : Nat) :
    Tells prog w s S slot i ep (match es[SetTable.below t.place slot]?, t.place[SetTable.below t.place slot]? with | some (_, x), some j => some (x, j + 1) | _, _ => none) := by
  intro A E Q hQ
  obtain ⟨os, hos, hds, hf⟩ := id hs
  unfold setNext setsByText
  refine wpAny_bind (wpAny_setState_of hos hds hf ?_)
  dsimp only
  refine wpAny_bind (wpAny_bind (wpAny_askSetting (wpAny_pure ?_)))
  refine wpAny_ite_split (fun h => absurd (show byText w = true from h) (by rw [hb]; decide)) (fun _ => ?_)
  refine wpAny_ite_split (fun h => ?_) (fun _ => ?_)
  · have h' : (!t.plain && decide (es.size > 1)) = true := h
    simp only [Bool.and_eq_true, Bool.not_eq_true', decide_eq_true_eq] at h'
    rcases hp with hp | hp
    · rw [hp] at h'; exact absurd h'.1 (by decide)
    · omega
  refine wpAny_bind ?_
  show wpAny _ _ (if (!t.led && !es.isEmpty) = true then unsupported "set:maker-not-led" else pure ()) _ _ _
  refine wpAny_ite_split (fun h => absurd h (by rw [hl]; simp)) (fun _ => ?_)
  refine wpAny_pure ?_
  exact wpAny_pure hQ
end
end L2

end
section
set_option Elab.async false
set_option linter.all false
set_option maxRecDepth 100000
set_option maxHeartbeats 4000000
namespace L2
open PySem PyProof.Rows
section
variable {prog : Program} {w : World} {A : Around} {E : Value → Shared → Prop} {s : Shared}
theorem erase_perm {α : Type} : ∀ (l : List α) (i : Nat) (h : i < l.length), (l[i] :: l.eraseIdx i).Perm l
  | [], i, h => absurd h (Nat.not_lt_zero _)
  | x :: l, 0, h => List.Perm.refl _
  | x :: l, i + 1, h => by
    show (l[i]'(by simpa using h) :: x :: l.eraseIdx i).Perm (x :: l)
    exact (List.Perm.swap _ _ _).trans (List.Perm.cons _ (erase_perm l i (by simpa using h)))
theorem pick_go {α : Type} (f : Nat → Nat) : ∀ (n k : Nat) (l : List α) (out : Array α), l.length = n → (pickOrder.go f n k l out).toList.Perm (out.toList ++ l)
  | 0, k, l, out, h => by
    have : l = [] := List.length_eq_zero_iff.mp h
    subst this
    unfold pickOrder.go
    rw [List.append_nil]
  | n + 1, k, l, out, h => by
    have hi : f k % l.length < l.length := Nat.mod_lt _ (by omega)
    unfold pickOrder.go
    rw [List.getElem?_eq_getElem hi]
    dsimp only
    have ih := pick_go f n (k + 1) (l.eraseIdx (f k % l.length)) (out.push l[f k % l.length]) (by rw [List.length_eraseIdx_of_lt hi]; omega)
    refine ih.trans ?_
    rw [Array.toList_push, List.append_assoc]
    exact List.Perm.append_left _ (erase_perm _ _ hi)
theorem pick_perm {α : Type} (f : Nat → Nat) (xs : Array α) : (pickOrder f xs).toList.Perm xs.toList := by
  have := pick_go f xs.size 0 xs.toList #[] (by simp)
  simpa [pickOrder] using this
theorem wpAny_choose' {src : Source} {n : Nat} {Q : Nat → Shared → Prop} {M : Model} (hn : n ≠ 0) (h : ∀ x d', x < n → Q x { s with drawn := d' }) : wpAny M A (choose src n) Q E s := fun _ _ _ => ⟨hn, h _ _ (Nat.mod_lt _ (by omega))⟩
theorem draw_perm {α : Type} {M : Model} : ∀ (n : Nat) (xs : List α) (s : Shared) (Q : List α → Shared → Prop), xs.length = n → (∀ r d', r.Perm xs → Q r { s with drawn := d' }) → wpAny M A (drawOrder n xs) Q E s
  | 0, xs, s, Q, h, hQ => by
    have : xs = [] := List.length_eq_zero_iff.mp h
    subst this
    unfold drawOrder
    exact wpAny_pure (hQ [] s.drawn .nil)
  | n + 1, xs, s, Q, h, hQ => by
    cases xs with
    | nil => cases h
    | cons y ys =>
      unfold drawOrder
      refine wpAny_bind (wpAny_choose' (by simp) fun i d' hi => ?_)
      rw [List.getElem?_eq_getElem hi]
      dsimp only
      refine wpAny_bind (draw_perm n _ _ _ (by rw [List.length_eraseIdx_of_lt hi]; simp at h; simp; omega) fun r d2 hr => ?_)
      exact wpAny_pure (hQ _ d2 ((List.Perm.cons _ hr).trans (erase_perm _ _ hi)))
/-! ### the three walks -/
noncomputable abbrev GE : Array GenState → Array GenState → Prop := fun a b => b = a
theorem slot_si_iter : Slot "set_iterator" "__iter__" "set_iterator.__iter__" :=
  .of (owner := "set_iterator") (n := "__iter__") (by rw [typeLookup_type, builtinLookup_eq_fast]; kernel_rfl) (by decide +kernel) (by decide +kernel) (by decide +kernel)
    (by first | exact .inl (by decide +kernel) | exact .inr (by decide +kernel)) (by rw [isSubtype_type]; kernel_rfl)
theorem args_si_iter_1 (a : Value) : argsOk "set_iterator.__iter__" ⟨[a], []⟩ := by
  unfold argsOk; rw [signature?_of (id := "set_iterator.__iter__") (n := ['_', '_', 'r', 'e', 't', 'i', '_', '_']) (o := ['r', 'o', 't', 'a', 'r', 'e', 't', 'i', '_', 't', 'e', 's']) (by kernel_rfl) owner_set_iterator]; kernel_rfl
theorem entry_si_iter : entryFor table "set_iterator.__iter__" = some Builtin.«dict_keyiterator.__iter__» :=
  entryFor_alias (id' := "dict_keyiterator.__iter__") (by kernel_rfl) (by first | rfl | decide +kernel | (unfold String.splitOn; simp +decide [String.splitOnAux])) (by decide +kernel) (by kernel_rfl)
theorem iter_self {I S : Addr} {first : Value} {i n ep : Nat} {Q : Value → Shared → Prop} (hit : IsSI s.heap I S first i n ep) (h : Q (.ref I) s) : wpAny (model prog w) A (pyIter (.ref I)) Q E s := by
  refine wpAny_pyIter_slot hit.typeIs slot_si_iter (wpAny_call_entry slot_si_iter hit.typeIs entry_si_iter ?_ (args_si_iter_1 _))
  show wpAny _ _ (ret (.ref I)) _ _ s
  exact wpAny_pure ⟨_, rfl, "set_iterator", _, hit.typeIs, slot_si_next.lookup, h⟩
theorem walk_text {I S : Addr} {es : Array (Int × Value)} {ep : Nat} {t : SetTable} (hh : A.handled = none) (hne : S ≠ I) (hb : byText w = true) :
    WalksS prog w A I [I, S] [I] GE es.size (fun i v => ((pickOrder (w.params.setOrder S ep) es).toList.map (·.2))[i]? = some v) (fun i s => IsSI s.heap I S (rawInt ((0 : Nat) : Int)) i es.size ep ∧ SetAt s.heap S es ep t) where
  sub := fun b hb => by simp at hb; simp [hb]
  grefl := fun _ => rfl
  gtrans := fun _ _ _ h1 h2 => h2.trans h1
  frame := fun i s h' tk st _ hk => ⟨st.1.at fun o e => hk I (by simp) o e, st.2.at fun o e => hk S (by simp) o e⟩
  item := fun i s Q E hi st hQ => by
    have hl : (pickOrder (w.params.setOrder S ep) es).size = es.size := by rw [← Array.length_toList, (pick_perm _ es).length_eq, Array.length_toList]
    have hx : (pickOrder (w.params.setOrder S ep) es)[i]? = some (pickOrder (w.params.setOrder S ep) es)[i] := Array.getElem?_eq_getElem (by omega)
    have hT := tells_text (prog := prog) st.2 hb 0 i
    rw [hx] at hT
    refine next_si st.1 st.2 hT fun h' hit' hs' => ?_
    refine hQ _ _ ?_ ⟨hit', st.2.at fun o e => ?_⟩ ⟨fun b o hb e => ?_, rfl, rfl, rfl, Nat.le_refl _⟩
    · rw [List.getElem?_map, Array.getElem?_toList, hx]; rfl
    · exact hs'.extBut S o hne e
    · exact hs'.extBut b o (fun q => hb (by simp [q])) e
  done := fun s Q E st hQ => by
    have hl : (pickOrder (w.params.setOrder S ep) es).size = es.size := by rw [← Array.length_toList, (pick_perm _ es).length_eq, Array.length_toList]
    have hx : (pickOrder (w.params.setOrder S ep) es)[es.size]? = none := Array.getElem?_eq_none (by omega)
    have hT := tells_text (prog := prog) st.2 hb 0 es.size
    rw [hx] at hT
    exact wpAny_with_toks (Nat.le_refl s.toks) (end_si hh st.1 st.2 hT fun h' tk k htk => hQ _ ⟨fun b o hb e => k b o (fun q => hb (by simp [q])) e, rfl, rfl, rfl, htk⟩)
  self := fun i s Q E st h => iter_self st.1 h
noncomputable def slotAt (place : Array Nat) : Nat → Nat
  | 0 => 0
  | i + 1 => place.getD i 0 + 1
theorem below_slotAt {place : Array Nat} (h : Rise place) : ∀ i, i ≤ place.size → SetTable.below place (slotAt place i) = i
  | 0, _ => by
    obtain ⟨h1, h2, h3⟩ := below_spec h 0
    show SetTable.below place 0 = 0
    rcases Nat.eq_zero_or_pos (SetTable.below place 0) with c | c
    · exact c
    · exact absurd (h2 0 (by omega) c) (Nat.not_lt_zero _)
  | i + 1, hi => by
    have e : slotAt place (i + 1) = place[i] + 1 := by show place.getD i 0 + 1 = _; simp [Array.getD, show i < place.size by omega]
    obtain ⟨h1, h2, h3⟩ := below_spec h (slotAt place (i + 1))
    rw [e] at h1 h2 h3 ⊢
    generalize SetTable.below place (place[i] + 1) = r at *
    rcases Nat.lt_trichotomy r (i + 1) with c | c | c
    · have := h3 i (by omega) (by omega); omega
    · exact c
    · have h4 := h2 (i + 1) (by omega) c
      have h5 := rise_get h (show i < i + 1 by omega) (by omega)
      omega
theorem walk_plain {I S : Addr} {es : Array (Int × Value)} {ep : Nat} {t : SetTable} (hh : A.handled = none) (hne : S ≠ I) (hb : byText w = false) (hl : t.led = true) (hp : t.plain = true ∨ es.size ≤ 1) (hr : Rise t.place) (hz : t.place.size = es.size) :
    WalksS prog w A I [I, S] [I] GE es.size (fun i v => (es.toList.map (·.2))[i]? = some v) (fun i s => IsSI s.heap I S (rawInt (slotAt t.place i : Nat)) i es.size ep ∧ SetAt s.heap S es ep t) where
  sub := fun b hb => by simp at hb; simp [hb]
  grefl := fun _ => rfl
  gtrans := fun _ _ _ h1 h2 => h2.trans h1
  frame := fun i s h' tk st _ hk => ⟨st.1.at fun o e => hk I (by simp) o e, st.2.at fun o e => hk S (by simp) o e⟩
  item := fun i s Q E hi st hQ => by
    have hT := tells_plain (prog := prog) st.2 hb hl hp (slotAt t.place i) i
    rw [below_slotAt hr i (by omega), Array.getElem?_eq_getElem hi, Array.getElem?_eq_getElem (show i < t.place.size by omega)] at hT
    refine next_si (nx := slotAt t.place (i + 1)) (x := es[i].2) st.1 st.2 ?_ fun h' hit' hs' => ?_
    · have e : slotAt t.place (i + 1) = t.place[i] + 1 := by show t.place.getD i 0 + 1 = _; simp [Array.getD, show i < t.place.size by omega]
      rw [e]; exact hT
    refine hQ _ _ ?_ ⟨hit', st.2.at fun o e => ?_⟩ ⟨fun b o hb e => ?_, rfl, rfl, rfl, Nat.le_refl _⟩
    · rw [List.getElem?_map, Array.getElem?_toList, Array.getElem?_eq_getElem hi]; rfl
    · exact hs'.extBut S o hne e
    · exact hs'.extBut b o (fun q => hb (by simp [q])) e
  done := fun s Q E st hQ => by
    have hT := tells_plain (prog := prog) st.2 hb hl hp (slotAt t.place es.size) es.size
    rw [below_slotAt hr es.size (by omega), Array.getElem?_eq_none (Nat.le_refl _)] at hT
    exact wpAny_with_toks (Nat.le_refl s.toks) (end_si hh st.1 st.2 hT fun h' tk k htk => hQ _ ⟨fun b o hb e => k b o (fun q => hb (by simp [q])) e, rfl, rfl, rfl, htk⟩)
  self := fun i s Q E st h => iter_self st.1 h
theorem walk_drawn {I S T : Addr} {es : Array (Int × Value)} {ep : Nat} {t : SetTable} {ps : List Nat} (hh : A.handled = none) (hne : S ≠ I) (hneT : T ≠ I) (hps : ps.Perm (List.range es.size)) :
    WalksS prog w A I [I, S, T] [I] GE es.size (fun i v => (ps.map fun p => (es.getD p (0, .none)).2)[i]? = some v) (fun i s => IsSI s.heap I S (.ref T) i es.size ep ∧ SetAt s.heap S es ep t ∧ s.heap.IsTuple T (ps.map fun (p : Nat) => rawInt p).toArray) where
  sub := fun b hb => by simp at hb; simp [hb]
  grefl := fun _ => rfl
  gtrans := fun _ _ _ h1 h2 => h2.trans h1
  frame := fun i s h' tk st _ hk => ⟨st.1.at fun o e => hk I (by simp) o e, st.2.1.at fun o e => hk S (by simp) o e, st.2.2.at fun o e => hk T (by simp) o e⟩
  item := fun i s Q E hi st hQ => by
    have hl : ps.length = es.size := by rw [hps.length_eq, List.length_range]
    have hm : ∀ p ∈ ps, p < es.size := fun p hp => List.mem_range.mp (hps.mem_iff.mp hp)
    have hpi : ps[i]'(by omega) < es.size := hm _ (List.getElem_mem _)
    refine next_sd (pl := ps[i]'(by omega)) (kx := es[ps[i]'(by omega)]) (tk := 0) st.1 st.2.1 st.2.2 ?_ (Array.getElem?_eq_getElem hpi) fun h' hit' hs' => ?_
    · rw [List.getElem?_toArray, List.getElem?_map, List.getElem?_eq_getElem (show i < ps.length by omega)]; rfl
    refine hQ _ _ ?_ ⟨hit', st.2.1.at fun o e => hs'.extBut S o hne e, st.2.2.at fun o e => hs'.extBut T o hneT e⟩ ⟨fun b o hb e => hs'.extBut b o (fun q => hb (by simp [q])) e, rfl, rfl, rfl, Nat.le_refl _⟩
    rw [List.getElem?_map, List.getElem?_eq_getElem (show i < ps.length by omega)]
    simp [Array.getD, hpi]
  done := fun s Q E st hQ => by
    have hl : ps.length = es.size := by rw [hps.length_eq, List.length_range]
    exact wpAny_with_toks (Nat.le_refl s.toks) (end_sd hh st.1 st.2.1 st.2.2 (by rw [List.getElem?_toArray, List.getElem?_eq_none (by simp; omega)]) fun h' tk k htk => hQ _ ⟨fun b o hb e => k b o (fun q => hb (by simp [q])) e, rfl, rfl, rfl, htk⟩)
  self := fun i s Q E st h => iter_self st.1 h
theorem drawn_vals {es : Array (Int × Value)} {ps : List Nat} (hps : ps.Perm (List.range es.size)) : (ps.map fun p => (es.getD p (0, .none)).2).Perm (es.toList.map (·.2)) := by
  refine (hps.map _).trans ?_
  have e : (List.range es.size).map (fun p => (es.getD p (0, Value.none)).2) = es.toList.map (·.2) := by
    apply List.ext_getElem
    · simp
    · intro i h1 h2
      simp at h1
      simp [Array.getD, h1]
  rw [e]
/-- what walks a set, whichever way it goes -/
noncomputable def Walked (prog : Program) (w : World) (S : Addr) (es : Array (Int × Value)) (s0 s : Shared) (I : Addr) : Prop :=
  Ex3 fun (vs : List Value) (fp : List Addr) (St : Nat → Shared → Prop) => vs.Perm (es.toList.map (·.2)) ∧ (∀ A : Around, A.handled = none → WalksS prog w A I fp [I] GE es.size (fun i v => vs[i]? = some v) St) ∧ St 0 s ∧ (∀ b ∈ fp, b < s.heap.objs.size) ∧ I ∈ fp ∧ s.TypeIs (.ref I) "set_iterator" ∧
    (∀ b o, s0.heap.get? b = some o → s.heap.get? b = some o) ∧ s0.heap.objs.size ≤ I ∧ s.gens = s0.gens ∧ s.os = s0.os ∧ s0.toks ≤ s.toks ∧ ∀ b ∈ fp, b = S ∨ s0.heap.objs.size ≤ b
theorem rise_small {xs : Array Nat} (h : xs.size ≤ 1) : Rise xs := by
  unfold Rise
  rw [← Array.length_toList] at h
  match xs.toList, h with
  | [], _ => exact .nil
  | [x], _ => exact List.pairwise_singleton _ _
theorem walk_set {S : Addr} {o : Obj} {es : Array (Int × Value)} {ep : Nat} {t : SetTable} {Q : Value → Shared → Prop} (ho : s.heap.get? S = some o) (hc : o.cls = .type "set") (hd : o.data = .set es ep t) (hf : t.fits es.size = true) (hb : es.size < scanBound) (hG : TabG (!byText w) t)
    (hQ : ∀ I s', Walked prog w S es s s' I → Q (.ref I) s') : wpAny (model prog w) A (pyIter (.ref S)) Q E s := by
  have hT : s.TypeIs (.ref S) "set" := ⟨o, ho, hc⟩
  have hSlt := Heap.lt_size ho
  have hz : t.place.size = es.size := by
    have := hf
    unfold SetTable.fits at this
    simp only [Bool.and_eq_true, beq_iff_eq] at this
    exact this.1
  refine wpAny_pyIter_slot hT F.slot_set_iter (wpAny_call_entry F.slot_set_iter hT entry_set_iter ?_ (F.args_set_iter_1 _))
  unfold Builtin.«frozenset.__iter__» Builtin.Frozenset.slot0 Builtin.Frozenset.sizeOf
  refine wpAny_bind (wpAny_of_eq (a := S) rfl ?_)
  refine wpAny_bind (wpAny_bind (wpAny_setEntries_of ho hd hf (wpAny_pure ?_)))
  unfold setDrawn setsByText
  refine wpAny_bind (wpAny_bind (wpAny_setState_of ho hd hf ?_))
  dsimp only
  refine wpAny_bind (wpAny_bind (wpAny_askSetting (wpAny_pure (wpAny_pure ?_))))
  refine wpAny_ite_split (fun h => ?_) (fun h => ?_)
  · have h' : (!byText w && (!t.plain && decide (es.size > 1))) = true := h
    refine wpAny_bind (draw_perm _ _ _ _ List.length_range fun ps d' hps => ?_)
    have hlen : ps.length = es.size := by rw [hps.length_eq, List.length_range]
    refine wpAny_bind (wpAny_newTuple ?_ (by rw [List.length_map, hlen]; exact fits_of_scanBound hb))
    have o1 : (s.heap.push { cls := .type "tuple", data := .seq (ps.map fun (p : Nat) => rawInt p).toArray }).get? S = some o := Heap.get?_push_of_some _ ho
    unfold setEpoch
    refine wpAny_bind (wpAny_bind (wpAny_setState_of o1 hd hf (wpAny_pure ?_)))
    unfold newFields
    refine wpAny_bind (wpAny_newObj_type ?_ (by size_fits))
    refine wpAny_pure ⟨_, rfl, "set_iterator", _, ⟨_, Heap.get?_push_size _ rfl, rfl⟩, slot_si_next.lookup, hQ _ _ ?_⟩
    have hI : (s.heap.push { cls := .type "tuple", data := .seq (ps.map fun (p : Nat) => rawInt p).toArray }).objs.size = s.heap.objs.size + 1 := Heap.size_push _ _
    have e2 : ∀ b o', s.heap.get? b = some o' → ((s.heap.push { cls := .type "tuple", data := .seq (ps.map fun (p : Nat) => rawInt p).toArray }).push { cls := .type "set_iterator", data := .fields #[.ref s.heap.objs.size, rawInt 0, .ref S, rawInt es.size, rawInt ep] }).get? b = some o' := fun b o' e => Heap.get?_push_of_some _ (Heap.get?_push_of_some _ e)
    refine ⟨_, [(s.heap.push { cls := .type "tuple", data := .seq (ps.map fun (p : Nat) => rawInt p).toArray }).objs.size, S, s.heap.objs.size], _, drawn_vals hps, fun A hh => walk_drawn (t := t) (ep := ep) hh ?_ ?_ hps, ⟨⟨_, Heap.get?_push_size _ rfl, rfl, rfl⟩, ⟨o, e2 S o ho, hd, hf⟩, ⟨_, Heap.get?_push_of_some _ (Heap.get?_push_size _ rfl), rfl, 0, rfl⟩⟩, ?_, by simp, ⟨_, Heap.get?_push_size _ rfl, rfl⟩, e2, ?_, rfl, rfl, Nat.le_refl _, ?_⟩
    · rw [hI]; exact Nat.ne_of_lt (Nat.lt_succ_of_lt hSlt)
    · rw [hI]; exact Nat.ne_of_lt (Nat.lt_succ_self _)
    · intro b hb
      simp only [List.mem_cons, List.not_mem_nil, or_false] at hb
      show b < ((s.heap.push _).push _).objs.size
      rw [Heap.size_push, hI]
      rcases hb with rfl | rfl | rfl
      · rw [hI]; exact Nat.lt_succ_self _
      · exact Nat.lt_succ_of_lt (Nat.lt_succ_of_lt hSlt)
      · exact Nat.lt_succ_of_lt (Nat.lt_succ_self _)
    · show s.heap.objs.size ≤ (s.heap.push _).objs.size
      rw [hI]; exact Nat.le_succ _
    · intro b hb
      simp only [List.mem_cons, List.not_mem_nil, or_false] at hb
      rcases hb with rfl | rfl | rfl
      · right; rw [hI]; exact Nat.le_succ _
      · exact .inl rfl
      · exact .inr (Nat.le_refl _)
  · have h' : ¬ (!byText w && (!t.plain && decide (es.size > 1))) = true := h
    refine wpAny_bind (wpAny_pure ?_)
    unfold setEpoch
    refine wpAny_bind (wpAny_bind (wpAny_setState_of ho hd hf (wpAny_pure ?_)))
    unfold newFields
    refine wpAny_bind (wpAny_newObj_type ?_ (by size_fits))
    refine wpAny_pure ⟨_, rfl, "set_iterator", _, ⟨_, Heap.get?_push_size _ rfl, rfl⟩, slot_si_next.lookup, hQ _ _ ?_⟩
    have e2 : ∀ b o', s.heap.get? b = some o' → (s.heap.push { cls := .type "set_iterator", data := .fields #[rawInt 0, rawInt 0, .ref S, rawInt es.size, rawInt ep] }).get? b = some o' := fun b o' e => Heap.get?_push_of_some _ e
    have hin : ∀ b ∈ [s.heap.objs.size, S], b < (s.heap.push { cls := .type "set_iterator", data := .fields #[rawInt 0, rawInt 0, .ref S, rawInt es.size, rawInt ep] }).objs.size := by
      intro b hb
      simp only [List.mem_cons, List.not_mem_nil, or_false] at hb
      rw [Heap.size_push]
      rcases hb with rfl | rfl
      · exact Nat.lt_succ_self _
      · exact Nat.lt_succ_of_lt hSlt
    have hin2 : ∀ b ∈ [s.heap.objs.size, S], b = S ∨ s.heap.objs.size ≤ b := by
      intro b hb
      simp only [List.mem_cons, List.not_mem_nil, or_false] at hb
      rcases hb with rfl | rfl
      · exact .inr (Nat.le_refl _)
      · exact .inl rfl
    by_cases hbt : byText w = true
    · exact ⟨_, [s.heap.objs.size, S], _, (pick_perm (w.params.setOrder S ep) es).map _, fun A hh => walk_text (t := t) (ep := ep) hh (Nat.ne_of_lt hSlt) hbt, ⟨⟨_, Heap.get?_push_size _ rfl, rfl, rfl⟩, ⟨o, e2 S o ho, hd, hf⟩⟩, hin, by simp, ⟨_, Heap.get?_push_size _ rfl, rfl⟩, e2, Nat.le_refl _, rfl, rfl, Nat.le_refl _, hin2⟩
    · have hbf : byText w = false := by simpa using hbt
      have hled : t.led = true := by rw [hG.led, hbf]; rfl
      have hp : t.plain = true ∨ es.size ≤ 1 := by
        rw [hbf] at h'
        cases hpl : t.plain
        · rw [hpl] at h'
          simp at h'
          exact .inr h'
        · exact .inl rfl
      have hr : Rise t.place := by
        rcases hp with hp | hp
        · exact hG.rise hp
        · exact rise_small (by omega)
      exact ⟨_, [s.heap.objs.size, S], _, List.Perm.refl _, fun A hh => walk_plain (t := t) (ep := ep) hh (Nat.ne_of_lt hSlt) hbf hled hp hr hz, ⟨⟨_, Heap.get?_push_size _ rfl, rfl, rfl⟩, ⟨o, e2 S o ho, hd, hf⟩⟩, hin, by simp, ⟨_, Heap.get?_push_size _ rfl, rfl⟩, e2, Nat.le_refl _, rfl, rfl, Nat.le_refl _, hin2⟩
end
end L2

end
section
set_option Elab.async false
set_option linter.all false
set_option maxRecDepth 100000
set_option maxHeartbeats 4000000
namespace L2
open PySem PyProof.Rows
theorem len_set_look : typeLookup (.type "set") "__len__" = pure (some (.builtin "set.__len__")) := by rw [typeLookup_type, builtinLookup_eq_fast]; kernel_rfl
section
variable {prog : Program} {w : World} {A : Around} {E : Value → Shared → Prop} {s : Shared}
/-- what a collected set leaves -/
structure Left (s s' : Shared) : Prop where
  heap : ∀ b o, s.heap.get? b = some o → s'.heap.get? b = some o
  gens : s'.gens = s.gens
  os : s'.os = s.os
  toks : s.toks ≤ s'.toks
  size : s.heap.objs.size ≤ s'.heap.objs.size
theorem items_vs {vs : List Value} {n : Nat} {acc : Array Value} (hn : vs.length = n) (h : ItemsOf (fun i v => vs[i]? = some v) acc n) : acc.toList = vs := by
  refine List.ext_getElem? fun i => ?_
  by_cases c : i < n
  · have h1 : acc[i]? = some (acc[i]'(by rw [h.1]; exact c)) := Array.getElem?_eq_getElem _
    rw [Array.getElem?_toList, h1]
    exact (h.2 i _ h1).symm
  · rw [Array.getElem?_toList, Array.getElem?_eq_none (by rw [h.1]; lia), List.getElem?_eq_none (by lia)]
theorem collect_set {S : Addr} {o : Obj} {es : Array (Int × Value)} {ep : Nat} {t : SetTable} {Q : List Value → Shared → Prop} (hh : A.handled = none) (ho : s.heap.get? S = some o) (hc : o.cls = .type "set") (hd : o.data = .set es ep t) (hf : t.fits es.size = true) (hb : es.size < scanBound) (hG : TabG (!byText w) t)
    (hQ : ∀ vs s', vs.Perm (es.toList.map (·.2)) → Left s s' → Q vs s') : wpAny (model prog w) A (collect (.ref S)) Q E s := by
  have hSlt := Heap.lt_size ho
  unfold collect
  refine wpAny_bind (wpAny_runValue (codeAny_builtin F.entry_proto_collect ?_))
  rw [Around.under_plainId F.plain_proto_collect _]
  show wpAny _ A.in1 (newList [] >>= fun l => again (.builtin "list.__iadd__" ⟨[l, .ref S], []⟩)) _ _ s
  refine wpAny_bind (wpAny_newObj_type ?_)
  refine wpAny_pure ⟨plainId_quiet F.plain_list_iadd _, codeAny_builtin F.entry_list_iadd ?_⟩
  rw [Around.under_plainId F.plain_list_iadd _]
  have ho1 : (s.heap.push { cls := .type "list", data := .seq ([] : List Value).toArray }).get? S = some o := Heap.get?_push_of_some _ ho
  have hS1 : (s.heap.push { cls := .type "list", data := .seq ([] : List Value).toArray }).get? s.heap.objs.size = some { cls := .type "list", data := .seq ([] : List Value).toArray } := Heap.get?_push_size _ rfl
  have h1 : Builtin.List.listSameRef (.ref s.heap.objs.size) (.ref S) = false := by simp [Builtin.List.listSameRef]; exact Nat.ne_of_gt hSlt
  show wpAny _ A.in1 (Builtin.List.listExtendWith (.ref s.heap.objs.size) (.ref S) (.ref s.heap.objs.size)) _ _ _
  unfold Builtin.List.listExtendWith
  refine wpAny_bind (wpAny_typeOf (T := "set") ⟨o, ho1, hc⟩ ?_)
  rw [if_neg (by rw [h1]; decide)]
  refine wpAny_bind (walk_set ho1 hc hd hf hb hG fun I s2 hq => ?_)
  obtain ⟨vs, fp, St, hp, hW, hst, hfp, hI, hT, hk, hge, hg, hos, htk, hfs⟩ := hq
  have ho2 := hk S o ho1
  have hS2 := hk _ _ hS1
  refine wpAny_bind (wpAny_holding ?_)
  unfold Builtin.List.listLengthHint
  refine wpAny_bind (wpAny_specialOf (T := "set") ⟨o, ho2, hc⟩ len_set_look ?_)
  (generalize hid : ("set.__len__" : String) = id0; (fail_if_success (clear hid id0)); wp_delta; rw [show splitId id0 = some ("set", "__len__") from by subst hid; decide +kernel]; subst hid)
  refine wpAny_bind (wpAny_isInstance (T := "set") (b := true) ⟨o, ho2, hc⟩ (by rw [isSubtype_type]; kernel_rfl) ?_)
  refine wpAny_ite_split (fun h => absurd h (by decide)) (fun _ => ?_)
  refine wpAny_ite_split (fun _ => ?_) (fun h => (h (by decide +kernel)).elim)
  refine wpAny_bind (wpAny_typeOf (T := "set") ⟨o, ho2, hc⟩ ?_)
  refine wpAny_pure ?_
  refine wpAny_ite_split (fun _ => ?_) (fun h => (h (by decide +kernel)).elim)
  refine wpAny_bind (wpAny_rule ?_)
  refine wpAny_bind ?_
  show wpAny _ A.in1 (updateSeq s.heap.objs.size (·.push .none) >>= fun _ => updateSeq s.heap.objs.size (·.pop)) _ _ _
  refine wpAny_bind (wpAny_updateSeq hS2 rfl ?_)
  have hS3 := Heap.get?_update_self (Obj.mapSeq (·.push Value.none)) hS2 rfl
  refine wpAny_updateSeq hS3 rfl ?_
  have hS4 := Heap.get?_update_self (Obj.mapSeq (·.pop)) hS3 rfl
  have hlt : s.heap.objs.size < I := by
    have := hge
    rw [show (s.heap.push { cls := .type "list", data := .seq ([] : List Value).toArray }).objs.size = s.heap.objs.size + 1 from Heap.size_push _ _] at this
    exact this
  have W := hW A.in1 hh
  have hSf : s.heap.objs.size ∉ fp := fun hm => by
    rcases hfs _ hm with h | h
    · exact absurd h (Nat.ne_of_gt hSlt)
    · rw [show (s.heap.push { cls := .type "list", data := .seq ([] : List Value).toArray }).objs.size = s.heap.objs.size + 1 from Heap.size_push _ _] at h
      exact absurd h (Nat.not_succ_le_self _)
  have oth : ∀ b o', b ≠ s.heap.objs.size → s2.heap.get? b = some o' → ((s2.heap.update s.heap.objs.size (Obj.mapSeq (·.push Value.none))).update s.heap.objs.size (Obj.mapSeq (·.pop))).get? b = some o' :=
    fun b o' hb e => (Heap.get?_update_other _ _ (Ne.symm hb)).trans ((Heap.get?_update_other _ _ (Ne.symm hb)).trans e)
  have hlen : vs.length = es.size := by rw [hp.length_eq, List.length_map, Array.length_toList]
  refine wpAny_pure ⟨plainId_quiet F.plain_extend_loop _, codeAny_extend_loopS W (fits_of_scanBound hb) _ hSf _ es.size 0 _ _ _ rfl (Nat.zero_le _)
    (W.frame 0 s2 _ s2.toks hst (Nat.le_refl _) fun b hb o e => oth b o (fun h => hSf (h ▸ hb)) e) hS4 (ItemsOf.nil _) fun s' acc' c' hm hS' hacc => ?_⟩
  show wpAny _ A (load s.heap.objs.size >>= _) _ _ s'
  refine wpAny_bind (wpAny_load hS' ?_)
  refine wpAny_pure ?_
  rw [items_vs hlen hacc]
  refine hQ vs s' hp ⟨fun b o' e => ?_, ?_, ?_, ?_, Nat.le_of_lt (Heap.lt_size hS')⟩
  · have hb := Heap.lt_size e
    refine hm.heap b o' ?_ (oth b o' (Nat.ne_of_lt hb) (hk b o' (Heap.get?_push_of_some _ e)))
    simp only [List.mem_cons, List.not_mem_nil, or_false, not_or]
    exact ⟨Nat.ne_of_lt hb, Nat.ne_of_lt (Nat.lt_trans hb hlt)⟩
  · exact hm.gens.trans hg
  · exact hm.os.trans hos
  · exact Nat.le_trans htk hm.toks
end
end L2

end
section
set_option Elab.async false
set_option linter.all false
set_option maxRecDepth 100000
set_option maxHeartbeats 4000000
namespace L2
open PySem PyProof.Rows
/-! ### lists without twins -/
theorem nodup_len {α : Type} [BEq α] [LawfulBEq α] : ∀ {σ τ : List α}, σ.Nodup → (∀ x ∈ σ, x ∈ τ) → σ.length ≤ τ.length
  | [], _, _, _ => Nat.zero_le _
  | x :: σ, τ, h, hs => by
    have hx : x ∈ τ := hs x List.mem_cons_self
    have h2 := List.nodup_cons.mp h
    have := nodup_len (σ := σ) (τ := τ.erase x) h2.2 fun y hy => (List.mem_erase_of_ne (fun e => h2.1 (by rw [← e]; exact hy))).mpr (hs y (List.mem_cons_of_mem _ hy))
    rw [List.length_erase_of_mem hx] at this
    have hp : 0 < τ.length := List.length_pos_of_mem hx
    simp only [List.length_cons]
    omega
theorem nodup_perm {α : Type} [BEq α] [LawfulBEq α] : ∀ {σ τ : List α}, σ.Nodup → (∀ x ∈ σ, x ∈ τ) → τ.length ≤ σ.length → σ.Perm τ
  | [], τ, _, _, hl => by
    have : τ = [] := List.length_eq_zero_iff.mp (by simpa using hl)
    rw [this]
  | x :: σ, τ, h, hs, hl => by
    have hx : x ∈ τ := hs x List.mem_cons_self
    have h2 := List.nodup_cons.mp h
    have ih := nodup_perm (σ := σ) (τ := τ.erase x) h2.2 (fun y hy => (List.mem_erase_of_ne (fun e => h2.1 (by rw [← e]; exact hy))).mpr (hs y (List.mem_cons_of_mem _ hy))) (by rw [List.length_erase_of_mem hx]; simp at hl; omega)
    exact (List.Perm.cons x ih).trans (List.perm_cons_erase hx).symm
theorem firstMet_nodup (val : Nat → Int) : ∀ i, (firstMet val i).Nodup
  | 0 => List.nodup_nil
  | i + 1 => by
    rw [firstMet_succ]
    unfold step_dedup
    split
    · exact firstMet_nodup val i
    · rename_i hn
      refine List.nodup_append.mpr ⟨firstMet_nodup val i, by simp, fun a ha b hb => ?_⟩
      rw [List.mem_singleton] at hb
      intro e
      exact hn (List.any_eq_true.mpr ⟨a, ha, by rw [e, hb]; exact beq_self_eq_true _⟩)
theorem firstMet_mem (ns : List Int) (k : Int) : k ∈ firstMet (fun i => ns.getD i 0) ns.length ↔ k ∈ ns := by
  have h := firstMet_any (fun i => ns.getD i 0) ns.length k
  have e : (List.range ns.length).map (fun i => ns.getD i 0) = ns := by
    apply List.ext_getElem
    · simp
    · intro i h1 h2
      simp [List.getD, h2]
  rw [e] at h
  have c : ∀ l : List Int, l.any (· == k) = true ↔ k ∈ l := fun l => by
    rw [List.any_eq_true]
    exact ⟨fun ⟨x, hx, q⟩ => by rw [← eq_of_beq q]; exact hx, fun hk => ⟨k, hk, beq_self_eq_true _⟩⟩
  rw [← c, ← c, h]
section
variable {prog : Program} {w : World} {A : Around} {E : Value → Shared → Prop} {s : Shared}
theorem vals_intsE : ∀ {vs : List Value}, (∀ v ∈ vs, Ex2 fun k t => v = .int k t) → ∃ ns, IntsAre vs ns ∧ ∀ k, k ∈ ns ↔ ∃ v ∈ vs, ∃ t, v = .int k t
  | [], _ => ⟨[], .nil, fun k => ⟨fun h => (nomatch h), fun ⟨v, h, _⟩ => (nomatch h)⟩⟩
  | v :: vs, h => by
    obtain ⟨ns, hn, hm⟩ := vals_intsE fun v' hv => h v' (List.mem_cons_of_mem _ hv)
    obtain ⟨k, t, rfl⟩ := h v List.mem_cons_self
    refine ⟨k :: ns, .cons k t hn, fun k' => ⟨fun hk => ?_, fun ⟨v', hv, t', e⟩ => ?_⟩⟩
    · rcases List.mem_cons.mp hk with rfl | hk
      · exact ⟨_, List.mem_cons_self, t, rfl⟩
      · obtain ⟨v', hv, t', e⟩ := (hm k').mp hk
        exact ⟨v', List.mem_cons_of_mem _ hv, t', e⟩
    · rcases List.mem_cons.mp hv with rfl | hv
      · cases e; exact List.mem_cons_self
      · exact List.mem_cons_of_mem _ ((hm k').mpr ⟨v', hv, t', e⟩)
theorem sorted_set {S : Addr} {Sm : Int → Bool} {n : Nat} {Q : Value → Shared → Prop} (hh : A.handled = none) (hS : SetG w prog s.heap S Sm n) (h64 : n < 64)
    (hQ : ∀ (h' : Heap) (d' : Drawn) (tk : Nat) (L : Addr) (ns' : List Int) (out : Array Value) (e : Nat), IntsAre out.toList ns' → ns'.length = n → (∀ k, k ∈ ns' ↔ Sm k = true) → ns'.Pairwise (· ≤ ·) → (∀ b o, s.heap.get? b = some o → h'.get? b = some o) → s.heap.objs.size ≤ L →
      h'.get? L = some (seqObj "list" out e) → Q (.ref L) { heap := h', gens := s.gens, drawn := d', toks := tk, os := s.os }) :
    wpAny (model prog w) A (call (.builtin "sorted") [.ref S]) Q E s := by
  obtain ⟨o, es, ep, t, ho, hex, hd, hel, hmem, hb, hf, hn, hG⟩ := hS
  refine Calls.call_function_entry kind_sorted plain_sorted entry_sorted (args_sorted1 _) ?_
  unfold Builtin.«sorted»
  refine wpAny_bind (m := checkCount "sorted" 1 1 _) (wpAny_pure ?_)
  refine wpAny_bind (collect_set (by simp [hh]) ho hex.1 hd hf hb hG fun vs s2 hp hL => ?_)
  have hall : ∀ v ∈ vs, Ex2 fun k t => v = .int k t := fun v hv => by
    obtain ⟨e, he, rfl⟩ := List.mem_map.mp (hp.mem_iff.mp hv)
    obtain ⟨⟨k, hk, _⟩, _⟩ := hel e he
    obtain ⟨t, ht⟩ := Value.isInt_shape hk
    exact ⟨k, t, ht⟩
  obtain ⟨ns, hI, hm⟩ := vals_intsE hall
  have hl : vs.length = n := by rw [hp.length_eq, List.length_map, Array.length_toList, hn]
  refine wpAny_bind (wpAny_newList ?_)
  have hoL : (s2.heap.push (seqObj "list" vs.toArray 0)).get? s2.heap.objs.size = some (seqObj "list" vs.toArray 0) := Heap.get?_push_size _ rfl
  refine wpAny_bind (wpAny_holding (wpAny_call_entry slot_list_sort ⟨_, hoL, rfl⟩ entry_list_sort (list_sort_tree hoL hI (by omega) fun out ns' a1 a2 a3 => ⟨_, rfl, ?_⟩) (args_list_sort _)))
  refine wpAny_pure ⟨_, rfl, ?_⟩
  obtain ⟨e, he⟩ := sortedHeap_at (out := out) hoL
  have hle := hL.size
  have hk := hL.heap
  have hg := hL.gens
  have hos := hL.os
  obtain ⟨h2, g2, d2, t2, o2⟩ := s2
  dsimp only at hg hos
  subst hg; subst hos
  refine hQ _ _ _ _ ns' out e a1 ?_ ?_ a3 (fun b ob eb => ?_) hle he
  · rw [a2.length_eq, ← IntsAre.length hI]; exact hl
  · intro k
    rw [a2.mem_iff, hm, hmem]
    constructor
    · rintro ⟨v, hv, t', rfl⟩
      obtain ⟨e', he', q⟩ := List.mem_map.mp (hp.mem_iff.mp hv)
      exact ⟨e', he', by rw [q]; exact intKind_is _ _ _ _⟩
    · rintro ⟨e', he', q⟩
      obtain ⟨t', ht⟩ := Value.isInt_shape q
      exact ⟨e'.2, hp.mem_iff.mpr (List.mem_map_of_mem he'), t', ht⟩
  · have hlt := Heap.lt_size (hk b ob eb)
    rw [sortedHeap_old (Nat.ne_of_lt hlt) (by rw [show (h2.push (seqObj "list" vs.toArray 0)).objs.size = h2.objs.size + 1 from Heap.size_push _ _]; exact Nat.lt_succ_of_lt hlt)]
    exact Heap.get?_push_of_some _ (hk b ob eb)
end
end L2

end
section
set_option Elab.async false
set_option linter.all false
set_option maxRecDepth 100000
set_option maxHeartbeats 4000000
namespace L2
open PySem PyProof.Rows
theorem boot_ty_set : bootBuiltins "set" = some (.type "set") := by decide +kernel
theorem boot_bi_sorted : bootBuiltins "sorted" = some (.builtin "sorted") := by decide +kernel
section
variable {X : Cx}
/-- the state's own draws are nobody's affair -/
theorem Inv.redraw {pins : List (Addr × Obj)} {σ : St} {H : Hp} {s s' : Shared} (I : Inv X pins σ H s) (h1 : s'.heap = s.heap) (h2 : s'.gens = s.gens) (h3 : s'.os = s.os) : Inv X pins σ H s' :=
  ⟨I.ok, by rw [h3]; exact I.os, by rw [h2]; exact I.bare, by rw [h1]; exact I.base, by rw [h1]; exact I.loc, by rw [h1]; exact I.cell, I.free, I.freeC, by rw [h1]; exact I.pin, by rw [h1]; exact I.hok, I.len⟩
/-- an Inv behind new objects that nobody tracks -/
theorem Inv.more {pins : List (Addr × Obj)} {σ : St} {H : Hp} {s : Shared} {h' : Heap} {tk : Nat} (I : Inv X pins σ H s) (k : ∀ b o, s.heap.get? b = some o → h'.get? b = some o) : Inv X pins σ H { s with heap := h', toks := tk } :=
  I.turnedL (fp := []) (fun b hb => nomatch hb) fun b o _ e => k b o e
noncomputable def tSortSet (K : PySem.W.Frag) (te : TE) : TE := fun σ H Q => te σ H fun x H1 => Ex2 fun (a : Addr) (ns : List Int) => x = .ref a ∧ SqL K H1 a (ns.map V.int) ∧ ns.length < 4000 ∧ (∀ ks : List Int, ks.Nodup → (∀ k ∈ ks, k ∈ ns) → ks.length < 64) ∧
  ∀ (l : Addr) (ns' : List Int), H1 l = none → ns'.Pairwise (· < ·) → (∀ k, k ∈ ns' ↔ k ∈ ns) → Q (.ref l) (upd H1 l (.lst (ns'.map V.int)))
theorem pe_sortset {e : Expr} {te : TE} {p1 p2 pos pos2 : Pos} (hc : X.calm = true) (hg1 : Gl X "sorted") (hm1 : X.mg "sorted" = none) (hg2 : Gl X "set") (hm2 : X.mg "set" = none) (he : PE X e te)
    (hs : starEach [e] X.env = [(false, eval e X.env)] := by rfl) (hs2 : starEach [.Call (.Name "set" p2) [e] [] pos2] X.env = [(false, eval (.Call (.Name "set" p2) [e] [] pos2) X.env)] := by rfl) :
    PE X (.Call (.Name "sorted" p1) [.Call (.Name "set" p2) [e] [] pos2] [] pos) (tSortSet X.K te) := by
  intro pins s σ H Q I h
  refine wpAny_Call_Name_kw (ld_blt I hg1 hm1 boot_bi_sorted ?_ (by decide) (by decide))
  refine PyProof.Rows.callWith_builtin1 ?_ hs2 rfl
  rw [hs2]
  show wpAny _ _ (spliced ((false, eval (.Call (.Name "set" p2) [e] [] pos2) X.env) :: [])) _ _ s
  refine Calls.spliced_cons ?_
  refine wpAny_Call_Name_kw (ld_blt I hg2 hm2 boot_ty_set ?_ (by decide) (by decide))
  refine PyProof.Rows.callWith_type1 ?_ hs rfl
  rw [hs]
  show wpAny _ _ (spliced ((false, eval e X.env) :: [])) _ _ s
  refine Calls.spliced_cons (thn (he pins s σ H _ I h) fun u s1 hq => ?_)
  obtain ⟨x, H1, I1, r1, a, ns, ex, ha, hl, h64, q⟩ := hq
  subst ex
  cases r1
  refine Calls.spliced_nil ?_
  obtain ⟨its, r2, p2, z2⟩ := I1.list ha
  have hlen := r2.length
  rw [List.length_map] at hlen
  have hh := I1.ok.hd hc
  refine call_set_G hh p2.isList (by simpa using intsAreR r2) (by rw [List.size_toArray]; unfold scanBound; lia) fun h2 tk2 hS hk => ?_
  refine Calls.spliced_nil ?_
  have I2 : Inv X pins σ H1 { s1 with heap := h2, toks := tk2 } := I1.more hk
  have hsz : its.toArray.size = ns.length := by rw [List.size_toArray, hlen]
  rw [hsz] at hS
  have hfm := firstMet_nodup (fun i => ns.getD i 0) ns.length
  refine sorted_set (s := { s1 with heap := h2, toks := tk2 }) hh hS (h64 _ hfm fun k hk => (firstMet_mem ns k).mp hk) fun h3 d3 tk3 L ns' out e3 b1 b2 b3 b4 b5 b6 b7 => ?_
  have hmem : ∀ k, k ∈ ns' ↔ k ∈ firstMet (fun i => ns.getD i 0) ns.length := fun k => by
    rw [b3]
    constructor
    · intro h
      obtain ⟨y, hy, q⟩ := List.any_eq_true.mp h
      rw [← eq_of_beq q]; exact hy
    · intro h; exact List.any_eq_true.mpr ⟨k, h, beq_self_eq_true _⟩
  have hnd : ns'.Nodup := (nodup_perm hfm (fun k hk => (hmem k).mpr hk) (by rw [b2]; exact Nat.le_refl _)).nodup_iff.mp hfm
  have hlt : ns'.Pairwise (· < ·) := by
    refine List.Pairwise.imp₂ (fun a b h1 h2 => ?_) b4 hnd
    lia
  have r3 : Vals (ns'.map V.int) out.toList := vals_intsAre b1
  have I3 : Inv X pins σ (upd H1 L (.lst (ns'.map V.int))) { s1 with heap := h3, toks := tk3 } := I2.laid (a := L) (t' := tk3) (o := .lst (ns'.map V.int)) b5 b6 ⟨?_, out.toList, e3, r3, ?_⟩
  · refine ⟨.ref L, _, I3.redraw rfl rfl rfl, rfl, q L ns' (I2.hok.fresh b6) hlt fun k => (hmem k).trans (firstMet_mem ns k)⟩
  · rw [List.length_map, b2]
    have := h64 _ hfm fun k hk => (firstMet_mem ns k).mp hk
    have := sizeLine_eq
    lia
  · rw [b7]
end
end L2

end
section
set_option Elab.async false
set_option linter.all false
set_option maxRecDepth 100000
set_option maxHeartbeats 4000000
namespace L2
open PySem PySem.Spec PyProof.Rows
section
variable {X : Cx}
/-! ### max of a list of ints -/
noncomputable def rMaxL (K : PySem.W.Frag) : List V → Hp → VK → Prop := fun vs H Q => Ex2 fun (a : Addr) (ns : List Int) => vs = [.ref a] ∧ SqL K H a (ns.map V.int) ∧ 0 < ns.length ∧ ∀ M, M ∈ ns → (∀ a ∈ ns, a ≤ M) → Q (.int M) H
theorem call_maxL (hc : X.calm = true) : CallR X (.builtin "max") (rMaxL X.K) := by
  intro pins s σ H xs us Q I r h
  obtain ⟨a, ns, rfl, ha, hl, q⟩ := h
  obtain ⟨u, rfl, rx⟩ := vals1 r
  cases rx
  obtain ⟨its, r1, p1, z1⟩ := I.list ha
  have hi : IntsAre its ns := intsAreR r1
  have hlist := p1.isList
  obtain ⟨ys, e⟩ := hi.allInts.items
  have hns : ns = ys.toList.map (·.1) := by rw [← hi.numsOf, ← nums_intItems, ← e]
  have hsz : 0 < ys.size := by
    have h3 := hl; rw [hns, List.length_map, Array.length_toList] at h3; exact h3
  rw [e] at hlist
  refine max_intList (I.ok.hd hc) hlist hsz fun v h' tk hv hk => ?_
  obtain ⟨t, rfl⟩ := intItems_at hv
  obtain ⟨h1, h2⟩ := argBest_gt (numAt ys) (ys.size - 1)
  refine ⟨.int _, H, I.more (fun b o eb => hk b o eb), RelV_int _ _, q _ ?_ fun b hb => ?_⟩
  · rw [hns, numAt_eq]; exact getD_mem (by rw [List.length_map, Array.length_toList]; omega)
  · rw [hns] at hb
    obtain ⟨j, hj, rfl⟩ := mem_getD hb
    rw [List.length_map, Array.length_toList] at hj
    rw [← numAt_eq]; exact h2 j (by omega)
end
end L2

end
section
set_option Elab.async false
set_option linter.all false
set_option maxRecDepth 100000
set_option maxHeartbeats 4000000
namespace HT
open PySem PyProof.Rows
section
variable {prog : Program} {w : World} {A : Around} {E : Value → Shared → Prop} {s : Shared}
/-! ### t[::-1] -/
end
end HT
namespace L2
open PySem PyProof.Rows
end L2

end
section
set_option Elab.async false
set_option linter.all false
set_option maxRecDepth 100000
set_option maxHeartbeats 4000000
namespace HT
open PySem PyProof.Rows
section
variable {prog : Program} {w : World} {A : Around} {E : Value → Shared → Prop} {s : Shared}
/-! ### t[lo:hi], the whole of it -/
end
end HT
namespace L2
open PySem PyProof.Rows
end L2

end
section
set_option Elab.async false
set_option linter.all false
set_option maxRecDepth 100000
set_option maxHeartbeats 4000000
namespace L2
open PySem PySem.Spec PyProof.Rows
end L2

end
section
set_option Elab.async false
set_option linter.all false
set_option maxRecDepth 100000
set_option maxHeartbeats 4000000
namespace L2
open PySem PySem.Spec PyProof.Rows
section
variable {X : Cx}
/-! ### min of a list of ints -/
/-! ### wheels compared -/
/-! ### repr of an int or None -/
end
end L2
namespace L2
open PySem PySem.Spec PyProof.Rows
end L2

end
section
set_option Elab.async false
set_option linter.all false
set_option maxRecDepth 100000
set_option maxHeartbeats 4000000
namespace L2
open PySem PySem.Spec PyProof.Rows
/-! ### repr of a list of tuples within tuples -/
noncomputable def RdN (K : PySem.W.Frag) (H : Hp) : Nat → V → PyData → Prop
  | 0, _, _ => False
  | n + 1, v, d => (∃ i : Int, v = .int i ∧ d = .int i) ∨ Ex3 fun (a : Addr) (xs : List V) (ds : List PyData) => v = .ref a ∧ d = .tuple ds ∧ SqT K H a xs ∧ xs.length = ds.length ∧ ∀ (i : Nat) x e, xs[i]? = some x → ds[i]? = some e → RdN K H n x e
theorem readsAll_of {h : Heap} : ∀ {us : List Value} {ds : List PyData}, us.length = ds.length → (∀ (i : Nat) u e, us[i]? = some u → ds[i]? = some e → Reads h u e []) → ReadsAll h us ds []
  | [], [], _, _ => .nil
  | [], _ :: _, hl, _ => by cases hl
  | _ :: _, [], hl, _ => by cases hl
  | u :: us, d :: ds, hl, hr => by
    have h1 := hr 0 u d rfl rfl
    have h2 := readsAll_of (us := us) (ds := ds) (by simpa using hl) fun i u' e hu he => hr (i + 1) u' e hu he
    exact .cons (as := []) (bs := []) h1 h2
section
variable {X : Cx}
theorem reads_of {pins : List (Addr × Obj)} {σ : St} {H : Hp} {s : Shared} (I : Inv X pins σ H s) : ∀ (n : Nat) (x : V) (d : PyData) (u : Value), RdN X.K H n x d → RelV x u → Reads s.heap u d []
  | 0, _, _, _, h, _ => h.elim
  | n + 1, x, d, u, h, r => by
    rcases h with ⟨i, rfl, rfl⟩ | ⟨a, xs, ds, rfl, rfl, ha, hl, hx⟩
    · obtain ⟨t, rfl⟩ := r
      exact .int i t
    · cases r
      obtain ⟨us, r1, ⟨o, ho, hc, k, hd⟩, z1⟩ := I.tuple ha
      have l1 := r1.length
      refine .tuple ho hc hd (readsAll_of (by simp; lia) fun i u e hu he => ?_)
      have hi := (List.getElem?_eq_some_iff.mp hu).1
      obtain ⟨x1, e1, q1⟩ := vals_get r1 (i := i) (by simpa using hi)
      have eu : us.toArray[i]'(by simpa using hi) = u := by
        have := (List.getElem?_eq_some_iff.mp hu).2
        simpa using this
      rw [eu] at q1
      exact reads_of I n x1 e u (hx i x1 e e1 he) q1
end
/-- a wheel's data -/
noncomputable def whD (p m t few root : Nat) (marks : List Nat) : PyData := .tuple [.tuple ([p, m, t].map fun n : Nat => PyData.int (n : Int)), .int (few : Int), .int (root : Int), .tuple (marks.map fun n : Nat => PyData.int (n : Int))]
structure DOk (d : PyData) (w : Nat) : Prop where
  sh : d.showable = true
  nd : d.hasDict = false
  dp : d.depth ≤ 40
  sl : d.leavesShort 8 = true
  we : d.weight ≤ w
theorem rd_ints {K : PySem.W.Frag} {H : Hp} {a : Addr} {ns : List Nat} {k : Nat} (h : SqT K H a (ns.map fun n : Nat => V.int (n : Int))) : RdN K H (k + 2) (.ref a) (.tuple (ns.map fun n : Nat => PyData.int (n : Int))) := by
  refine .inr ⟨a, _, _, rfl, rfl, h, by simp, fun i x e hx he => .inl ?_⟩
  rw [List.getElem?_map] at hx he
  cases q : ns[i]? with
  | none => rw [q] at hx; cases hx
  | some n => rw [q] at hx he; cases hx; cases he; exact ⟨_, rfl, rfl⟩
theorem rd_wheel {K : PySem.W.Frag} {H : Hp} {wa fa mk : Addr} {p m t few root : Nat} {marks : List Nat} (hw : SqT K H wa [.ref fa, .int (few : Int), .int (root : Int), .ref mk]) (hf : SqT K H fa ([p, m, t].map fun n : Nat => V.int (n : Int))) (hm : SqT K H mk (marks.map fun n : Nat => V.int (n : Int))) : RdN K H 10 (.ref wa) (whD p m t few root marks) := by
  refine .inr ⟨wa, _, _, rfl, rfl, hw, rfl, fun i x e hx he => ?_⟩
  have hi : i = 0 ∨ i = 1 ∨ i = 2 ∨ i = 3 := by
    have := (List.getElem?_eq_some_iff.mp hx).1
    simp at this; lia
  rcases hi with rfl | rfl | rfl | rfl
  · cases hx; cases he; exact rd_ints (k := 7) hf
  · cases hx; cases he; exact .inl ⟨_, rfl, rfl⟩
  · cases hx; cases he; exact .inl ⟨_, rfl, rfl⟩
  · cases hx; cases he; exact rd_ints (k := 7) hm
section
variable {X : Cx}
/-! ### repr of a tuple of tuples -/
end
end L2

end
section
set_option Elab.async false
set_option linter.all false
set_option maxRecDepth 100000
set_option maxHeartbeats 4000000
namespace L2
open PySem PySem.Spec PyProof.Rows
/-! ### tuple(range(n)) -/
end L2

end
section
set_option Elab.async false
set_option linter.all false
set_option maxRecDepth 100000
set_option maxHeartbeats 4000000
namespace L2
open PySem PySem.Spec PyProof.Rows
section
variable {X : Cx}
/-! ### lists of ints, as long as one another, compared -/
end
end L2

end
section
set_option Elab.async false
set_option linter.all false
set_option maxRecDepth 100000
set_option maxHeartbeats 4000000
namespace L2
open PySem PySem.Spec PyProof.Rows
/-! ### a dict's keys walked: the dict stands frozen meanwhile -/
end L2

end
section
set_option linter.all false
set_option autoImplicit false
namespace L2
inductive An3 (p0 p1 p2 : Prop) : Prop | mk (_ : p0) (_ : p1) (_ : p2) : An3 p0 p1 p2
inductive An4 (p0 p1 p2 p3 : Prop) : Prop | mk (_ : p0) (_ : p1) (_ : p2) (_ : p3) : An4 p0 p1 p2 p3
inductive An5 (p0 p1 p2 p3 p4 : Prop) : Prop | mk (_ : p0) (_ : p1) (_ : p2) (_ : p3) (_ : p4) : An5 p0 p1 p2 p3 p4
inductive An6 (p0 p1 p2 p3 p4 p5 : Prop) : Prop | mk (_ : p0) (_ : p1) (_ : p2) (_ : p3) (_ : p4) (_ : p5) : An6 p0 p1 p2 p3 p4 p5
inductive An7 (p0 p1 p2 p3 p4 p5 p6 : Prop) : Prop | mk (_ : p0) (_ : p1) (_ : p2) (_ : p3) (_ : p4) (_ : p5) (_ : p6) : An7 p0 p1 p2 p3 p4 p5 p6
end L2
namespace Dg
/-- digit i of x to the base p -/
noncomputable def dg (p i x : Nat) : Nat := x / p ^ i % p
theorem dg_zero (p x : Nat) : dg p 0 x = x % p := by simp [dg]
theorem dg_succ (p i x : Nat) : dg p (i + 1) x = dg p i (x / p) := by
  unfold dg; rw [Nat.pow_succ, Nat.mul_comm, Nat.div_div_eq_div_mul]
theorem dg_lt {p : Nat} (hp : 2 ≤ p) (i x : Nat) : dg p i x < p := Nat.mod_lt _ (by lia)
theorem dg_of_lt {p : Nat} (hp : 2 ≤ p) {i k x : Nat} (h : x < p ^ k) (hk : k ≤ i) : dg p i x = 0 := by
  unfold dg
  have : x < p ^ i := Nat.lt_of_lt_of_le h (Nat.pow_le_pow_right (by lia) hk)
  rw [Nat.div_eq_of_lt this, Nat.zero_mod]
theorem dg_nil (p i : Nat) : dg p i 0 = 0 := by simp [dg]
theorem ext {p : Nat} (hp : 2 ≤ p) : ∀ {a b : Nat}, (∀ i, dg p i a = dg p i b) → a = b := by
  intro a
  induction a using Nat.strongRecOn with
  | _ a ih =>
    intro b h
    have h0 := h 0
    rw [dg_zero, dg_zero] at h0
    by_cases ha : a = 0
    · subst ha
      -- all digits of b are 0
      have key : ∀ n, ∀ b, b ≤ n → (∀ i, dg p i b = 0) → b = 0 := by
        intro n
        induction n with
        | zero => intro b hb _; lia
        | succ n ihn =>
          intro b hb hz
          by_cases hb0 : b = 0
          · exact hb0
          · have hlt : b / p < b := Nat.div_lt_self (by lia) (by lia)
            have hd : b / p = 0 := ihn (b / p) (by lia) fun i => by rw [← dg_succ]; exact hz (i + 1)
            have hm : b % p = 0 := by rw [← dg_zero]; exact hz 0
            have := Nat.div_add_mod b p
            rw [hd, hm] at this
            simpa using this.symm
      exact (key b b (Nat.le_refl _) fun i => by rw [← h i, dg_nil]).symm
    · have hlt : a / p < a := Nat.div_lt_self (by lia) (by lia)
      have hd : a / p = b / p := ih (a / p) hlt fun i => by rw [← dg_succ, ← dg_succ]; exact h (i + 1)
      have e1 := Nat.div_add_mod a p
      have e2 := Nat.div_add_mod b p
      rw [← e1, ← e2, hd, h0]
theorem lt_of_zero {p : Nat} (hp : 2 ≤ p) {j r : Nat} (h : ∀ i, j ≤ i → dg p i r = 0) : r < p ^ j := by
  have hpos : 0 < p ^ j := Nat.pow_pos (by lia)
  have hq : r / p ^ j = 0 := by
    refine ext hp fun i => ?_
    rw [dg_nil]
    have := h (j + i) (by lia)
    unfold dg at this ⊢
    rw [Nat.pow_add, ← Nat.div_div_eq_div_mul] at this
    exact this
  have := Nat.div_add_mod r (p ^ j)
  rw [hq, Nat.mul_zero, Nat.zero_add] at this
  rw [← this]
  exact Nat.mod_lt _ hpos
/-- a number with one more digit ahead: digits of t + u * d for t < p ^ k, u = p ^ k, d < p -/
theorem dg_put {p : Nat} (hp : 2 ≤ p) {k t d : Nat} (ht : t < p ^ k) (hd : d < p) (i : Nat) : dg p i (t + d * p ^ k) = if i = k then d else dg p i t := by
  have hpos : 0 < p ^ k := Nat.pow_pos (by lia)
  unfold dg
  by_cases h1 : i < k
  · rw [if_neg (by lia)]
    obtain ⟨c, rfl⟩ : ∃ c, k = i + (c + 1) := ⟨k - i - 1, by lia⟩
    have e : d * p ^ (i + (c + 1)) = p ^ i * (d * p ^ c * p) := by rw [Nat.pow_add, Nat.pow_succ]; ac_rfl
    rw [e, Nat.add_mul_div_left _ _ (Nat.pow_pos (by lia)), Nat.add_mul_mod_self_right]
  · by_cases h2 : i = k
    · subst h2
      rw [if_pos rfl, Nat.add_mul_div_right _ _ hpos, Nat.div_eq_of_lt ht, Nat.zero_add, Nat.mod_eq_of_lt hd]
    · rw [if_neg h2]
      have hlt : t + d * p ^ k < p ^ i := by
        have : t + d * p ^ k < p ^ (k + 1) := by
          rw [Nat.pow_succ]
          calc t + d * p ^ k < p ^ k + d * p ^ k := by lia
            _ = (d + 1) * p ^ k := by rw [Nat.add_mul]; lia
            _ ≤ p * p ^ k := Nat.mul_le_mul_right _ hd
            _ = p ^ k * p := Nat.mul_comm _ _
        exact Nat.lt_of_lt_of_le this (Nat.pow_le_pow_right (by lia) (by lia))
      rw [Nat.div_eq_of_lt hlt, Nat.div_eq_of_lt (Nat.lt_of_lt_of_le ht (Nat.pow_le_pow_right (by lia) (by lia)))]
theorem put_lt {p : Nat} {k t d : Nat} (ht : t < p ^ k) (hd : d < p) : t + d * p ^ k < p ^ (k + 1) := by
  rw [Nat.pow_succ]
  calc t + d * p ^ k < p ^ k + d * p ^ k := by lia
    _ = (d + 1) * p ^ k := by rw [Nat.add_mul]; lia
    _ ≤ p * p ^ k := Nat.mul_le_mul_right _ hd
    _ = p ^ k * p := Nat.mul_comm _ _

/-! the ring -/
noncomputable def shiftF (f : Nat → Nat) : Nat → Nat := fun i => if i = 0 then 0 else f (i - 1)
noncomputable def liftF (m : Nat) (t f : Nat → Nat) : Nat → Nat := fun i => if i < m then shiftF f i + f (m - 1) * t i else 0
noncomputable def tn (m : Nat) (t : Nat → Nat) : Nat → (Nat → Nat) → (Nat → Nat) → Nat → Nat
  | 0, _, _ => fun _ => 0
  | k + 1, f, y => fun i => f 0 * y i + tn m t k (fun j => f (j + 1)) (liftF m t y) i
/-- the row brought back from place q -/
noncomputable def stepF (m : Nat) (t : Nat → Nat) (q : Nat) (f : Nat → Nat) : Nat → Nat := fun i => f i + if q - m ≤ i ∧ i < q then f q * t (i - (q - m)) else 0
noncomputable def redF (m : Nat) (t : Nat → Nat) : Nat → (Nat → Nat) → (Nat → Nat)
  | 0, f => f
  | j + 1, f => redF m t j (stepF m t (m + j) f)
/-- the product of the first k of f and y -/
noncomputable def convF : Nat → (Nat → Nat) → (Nat → Nat) → Nat → Nat
  | 0, _, _ => fun _ => 0
  | k + 1, f, y => fun i => f 0 * y i + shiftF (convF k (fun j => f (j + 1)) y) i
section
variable {m : Nat} {t : Nat → Nat}
theorem stepF_lin (q c : Nat) (f g : Nat → Nat) : stepF m t q (fun i => c * f i + g i) = fun i => c * stepF m t q f i + stepF m t q g i := by
  funext i
  unfold stepF
  split
  · dsimp only; rw [Nat.mul_add, Nat.add_mul]; ac_rfl
  · simp
theorem redF_lin (c : Nat) : ∀ (j : Nat) (f g : Nat → Nat), redF m t j (fun i => c * f i + g i) = fun i => c * redF m t j f i + redF m t j g i
  | 0, f, g => rfl
  | j + 1, f, g => by
    show redF m t j (stepF m t (m + j) fun i => c * f i + g i) = _
    rw [stepF_lin, redF_lin c j]
    rfl
theorem stepF_shift {q : Nat} (hq : m ≤ q) (f : Nat → Nat) : stepF m t (q + 1) (shiftF f) = shiftF (stepF m t q f) := by
  funext i
  unfold stepF shiftF
  by_cases h0 : i = 0
  · subst h0
    rw [if_pos rfl, if_pos rfl]
    rw [if_neg (by lia)]
  · rw [if_neg h0, if_neg h0, if_neg (show ¬ q + 1 = 0 by lia)]
    congr 1
    by_cases h1 : q - m ≤ i - 1 ∧ i - 1 < q
    · rw [if_pos h1, if_pos (by lia), Nat.add_sub_cancel]
      congr 2
      lia
    · rw [if_neg h1, if_neg (by lia)]
theorem redF_shift (hm : 1 ≤ m) : ∀ (j : Nat) (f : Nat → Nat) (i : Nat), i < m → redF m t (j + 1) (shiftF f) i = liftF m t (redF m t j f) i
  | 0, f, i, hi => by
    show stepF m t (m + 0) (shiftF f) i = liftF m t f i
    unfold stepF liftF
    rw [if_pos hi, if_pos (by lia)]
    congr 1
    show shiftF f (m + 0) * t (i - (m + 0 - m)) = _
    unfold shiftF
    rw [if_neg (by lia)]
    simp
  | j + 1, f, i, hi => by
    show redF m t (j + 1) (stepF m t (m + (j + 1)) (shiftF f)) i = liftF m t (redF m t j (stepF m t (m + j) f)) i
    rw [← redF_shift hm j (stepF m t (m + j) f) i hi, ← stepF_shift (by lia)]
    rfl
theorem redF_low : ∀ (j : Nat) (f : Nat → Nat), (∀ q, m ≤ q → f q = 0) → redF m t j f = f
  | 0, f, _ => rfl
  | j + 1, f, h => by
    have e : stepF m t (m + j) f = f := by
      funext i
      unfold stepF
      rw [h (m + j) (by lia)]
      simp
    show redF m t j (stepF m t (m + j) f) = f
    rw [e]
    exact redF_low j f h
theorem liftF_lin (c : Nat) (f g : Nat → Nat) : liftF m t (fun i => c * f i + g i) = fun i => c * liftF m t f i + liftF m t g i := by
  funext i
  unfold liftF shiftF
  split
  · split
    · simp [Nat.mul_add, Nat.add_mul, Nat.mul_assoc]
    · dsimp only; rw [Nat.mul_add, Nat.add_mul]; ac_rfl
  · simp
theorem tn_lift : ∀ (k : Nat) (f y : Nat → Nat), liftF m t (tn m t k f y) = tn m t k f (liftF m t y)
  | 0, f, y => by
    funext i
    show liftF m t (fun _ => 0) i = 0
    unfold liftF shiftF
    split
    · split <;> simp
    · rfl
  | k + 1, f, y => by
    show liftF m t (fun i => f 0 * y i + tn m t k (fun j => f (j + 1)) (liftF m t y) i) = _
    rw [liftF_lin, tn_lift k]
    rfl
/-- THE PRODUCT: brought back from above, it is the sum of the lifted -/
theorem red_conv (hm : 1 ≤ m) : ∀ (k : Nat) (f y : Nat → Nat), (∀ q, m ≤ q → y q = 0) → ∀ i, i < m → redF m t k (convF (k + 1) f y) i = tn m t (k + 1) f y i
  | 0, f, y, hy, i, hi => by
    show f 0 * y i + shiftF (fun _ => 0) i = f 0 * y i + 0
    unfold shiftF
    split <;> rfl
  | k + 1, f, y, hy, i, hi => by
    show redF m t (k + 1) (fun i => f 0 * y i + shiftF (convF (k + 1) (fun j => f (j + 1)) y) i) i = f 0 * y i + tn m t (k + 1) (fun j => f (j + 1)) (liftF m t y) i
    rw [redF_lin]
    show f 0 * redF m t (k + 1) y i + redF m t (k + 1) (shiftF (convF (k + 1) (fun j => f (j + 1)) y)) i = _
    rw [redF_low (k + 1) y hy, redF_shift hm k _ i hi]
    congr 1
    have e : ∀ i, i < m → redF m t k (convF (k + 1) (fun j => f (j + 1)) y) i = tn m t (k + 1) (fun j => f (j + 1)) y i := fun i hi => red_conv hm k _ y hy i hi
    rw [← tn_lift]
    unfold liftF shiftF
    rw [if_pos hi, if_pos hi, e (m - 1) (by lia)]
    by_cases h0 : i = 0
    · rw [if_pos h0, if_pos h0]
    · rw [if_neg h0, if_neg h0, e (i - 1) (by lia)]
end

/-! by rests -/
theorem tn_zero {m : Nat} {t : Nat → Nat} : ∀ (k : Nat) (f y : Nat → Nat) (i : Nat), (∀ j, f j = 0) → tn m t k f y i = 0
  | 0, _, _, _, _ => rfl
  | k + 1, f, y, i, h => by
    show f 0 * y i + tn m t k (fun j => f (j + 1)) (liftF m t y) i = 0
    rw [h 0, tn_zero k _ _ i fun j => h (j + 1)]
    simp
theorem add_mod2 {p a b c d : Nat} (h1 : a % p = c % p) (h2 : b % p = d % p) : (a + b) % p = (c + d) % p := by rw [Nat.add_mod, h1, h2, ← Nat.add_mod]
theorem mul_mod2 {p a b c d : Nat} (h1 : a % p = c % p) (h2 : b % p = d % p) : (a * b) % p = (c * d) % p := by rw [Nat.mul_mod, h1, h2, ← Nat.mul_mod]
theorem liftF_congr {p m : Nat} (hm : 1 ≤ m) {t y y' : Nat → Nat} (h : ∀ i, i < m → y i % p = y' i % p) (i : Nat) : liftF m t y i % p = liftF m t y' i % p := by
  unfold liftF shiftF
  split
  · refine add_mod2 ?_ (mul_mod2 (h (m - 1) (by lia)) rfl)
    split
    · rfl
    · exact h (i - 1) (by lia)
  · rfl
theorem tn_congr {p m : Nat} (hm : 1 ≤ m) {t : Nat → Nat} : ∀ (k : Nat) (f y y' : Nat → Nat), (∀ i, i < m → y i % p = y' i % p) → ∀ i, i < m → tn m t k f y i % p = tn m t k f y' i % p
  | 0, _, _, _, _, _, _ => rfl
  | k + 1, f, y, y', h, i, hi => add_mod2 (mul_mod2 rfl (h i hi)) (tn_congr hm k _ _ _ (fun j _ => liftF_congr hm h j) i hi)
theorem dg_fun_succ (p x : Nat) : (fun j => dg p (j + 1) x) = fun j => dg p j (x / p) := by funext j; exact dg_succ p j x
theorem dg_mod (p i x : Nat) : dg p i x % p = dg p i x := by unfold dg; exact Nat.mod_mod _ _
/-- digits of x % p ^ k -/
theorem dg_low {p : Nat} (hp : 2 ≤ p) (k i x : Nat) : dg p i (x % p ^ k) = if i < k then dg p i x else 0 := by
  by_cases h : i < k
  · rw [if_pos h]
    unfold dg
    obtain ⟨c, rfl⟩ : ∃ c, k = i + (c + 1) := ⟨k - i - 1, by lia⟩
    rw [Nat.pow_add, Nat.mod_mul_right_div_self, Nat.pow_succ, Nat.mul_comm (p ^ c) p, Nat.mod_mul_right_mod]
  · rw [if_neg h]
    exact dg_of_lt hp (Nat.mod_lt _ (Nat.pow_pos (by lia))) (by lia)
/-- digits of x * p -/
theorem dg_up {p : Nat} (hp : 2 ≤ p) (i x : Nat) : dg p i (x * p) = if i = 0 then 0 else dg p (i - 1) x := by
  cases i with
  | zero => rw [dg_zero, if_pos rfl, Nat.mul_mod_left]
  | succ i => rw [if_neg (by lia), dg_succ, Nat.mul_div_cancel _ (by lia)]; rfl
/-- the last digit -/
theorem dg_last {p m x : Nat} (hp : 2 ≤ p) (hm : 1 ≤ m) (h : x < p ^ m) : x / p ^ (m - 1) = dg p (m - 1) x := by
  unfold dg
  rw [Nat.mod_eq_of_lt]
  obtain ⟨c, rfl⟩ : ∃ c, m = c + 1 := ⟨m - 1, by lia⟩
  exact Nat.div_lt_of_lt_mul (by simpa [Nat.pow_succ] using h)
end Dg

end
section
set_option linter.all false
namespace Dg
/-! numbers of m digits -/
noncomputable def ofF (p : Nat) : Nat → (Nat → Nat) → Nat
  | 0, _ => 0
  | m + 1, f => f 0 % p + p * ofF p m (fun j => f (j + 1))
theorem ofF_lt {p : Nat} (hp : 2 ≤ p) : ∀ (m : Nat) (f : Nat → Nat), ofF p m f < p ^ m
  | 0, f => by simp [ofF]
  | m + 1, f => by
    have h := ofF_lt hp m fun j => f (j + 1)
    have h1 : f 0 % p < p := Nat.mod_lt _ (by lia)
    show f 0 % p + p * ofF p m (fun j => f (j + 1)) < p ^ (m + 1)
    calc f 0 % p + p * ofF p m (fun j => f (j + 1)) < p + p * ofF p m (fun j => f (j + 1)) := by lia
      _ = p * (ofF p m (fun j => f (j + 1)) + 1) := by rw [Nat.mul_add, Nat.mul_one, Nat.add_comm]
      _ ≤ p * p ^ m := Nat.mul_le_mul_left _ h
      _ = p ^ (m + 1) := by rw [Nat.pow_succ, Nat.mul_comm]
theorem dg_ofF {p : Nat} (hp : 2 ≤ p) : ∀ (m : Nat) (f : Nat → Nat) (i : Nat), dg p i (ofF p m f) = if i < m then f i % p else 0
  | 0, f, i => by simp [ofF, dg_nil]
  | m + 1, f, i => by
    have h1 : f 0 % p < p := Nat.mod_lt _ (by lia)
    cases i with
    | zero =>
      rw [if_pos (by lia), dg_zero]
      show (f 0 % p + p * ofF p m (fun j => f (j + 1))) % p = f 0 % p
      rw [Nat.add_mul_mod_self_left, Nat.mod_mod]
    | succ i =>
      rw [dg_succ]
      show dg p i ((f 0 % p + p * ofF p m (fun j => f (j + 1))) / p) = _
      rw [Nat.add_mul_div_left _ _ (by lia), Nat.div_eq_of_lt h1, Nat.zero_add, dg_ofF hp m]
      by_cases h : i < m
      · rw [if_pos h, if_pos (by lia)]
      · rw [if_neg h, if_neg (by lia)]
theorem ext_lt {p : Nat} (hp : 2 ≤ p) {m a b : Nat} (ha : a < p ^ m) (hb : b < p ^ m) (h : ∀ i, i < m → dg p i a = dg p i b) : a = b :=
  ext hp fun i => by
    by_cases hi : i < m
    · exact h i hi
    · rw [dg_of_lt hp ha (by lia), dg_of_lt hp hb (by lia)]
noncomputable abbrev dgs (p x : Nat) : Nat → Nat := fun i => dg p i x
/-! the things of a field -/
noncomputable def up (p m t x : Nat) : Nat := ofF p m (liftF m (dgs p t) (dgs p x))
noncomputable def mulN (p m t : Nat) : Nat → Nat → Nat → Nat
  | 0, _, _ => 0
  | k + 1, x, y => ofF p m fun i => x % p * dg p i y + dg p i (mulN p m t k (x / p) (up p m t y))
noncomputable def mul (p m t x y : Nat) : Nat := mulN p m t m x y
section
variable {p m t : Nat} (hp : 2 ≤ p) (hm : 1 ≤ m)
include hp hm
theorem mulN_dg : ∀ (k x y i : Nat), i < m → dg p i (mulN p m t k x y) = tn m (dgs p t) k (dgs p x) (dgs p y) i % p
  | 0, x, y, i, hi => by show dg p i 0 = 0 % p; rw [dg_nil]; simp
  | k + 1, x, y, i, hi => by
    show dg p i (ofF p m fun i => x % p * dg p i y + dg p i (mulN p m t k (x / p) (up p m t y))) = _
    rw [dg_ofF hp, if_pos hi]
    show _ = (dg p 0 x * dg p i y + tn m (dgs p t) k (fun j => dg p (j + 1) x) (liftF m (dgs p t) (dgs p y)) i) % p
    rw [mulN_dg k _ _ i hi, dg_zero]
    refine add_mod2 rfl ?_
    rw [Nat.mod_mod, dg_fun_succ]
    refine tn_congr hm k _ _ _ (fun j hj => ?_) i hi
    show dg p j (up p m t y) % p = _
    unfold up
    rw [dg_ofF hp, if_pos hj, Nat.mod_mod]
theorem mulN_lt : ∀ (k x y : Nat), mulN p m t k x y < p ^ m
  | 0, x, y => Nat.pow_pos (by lia)
  | k + 1, x, y => ofF_lt hp _ _
theorem mul_lt (x y : Nat) : mul p m t x y < p ^ m := mulN_lt hp hm _ _ _
theorem mul_dg (x y i : Nat) (hi : i < m) : dg p i (mul p m t x y) = tn m (dgs p t) m (dgs p x) (dgs p y) i % p := mulN_dg hp hm m x y i hi
theorem mul_of {x y r : Nat} (hr : r < p ^ m) (h : ∀ i, i < m → dg p i r = tn m (dgs p t) m (dgs p x) (dgs p y) i % p) : r = mul p m t x y :=
  ext_lt hp hr (mul_lt hp hm x y) fun i hi => by rw [h i hi, mul_dg hp hm x y i hi]
end
/-! tn is linear, and commutes -/
section
variable {m : Nat} {t : Nat → Nat}
theorem tn_lin (c : Nat) : ∀ (k : Nat) (f y z : Nat → Nat), tn m t k f (fun i => c * y i + z i) = fun i => c * tn m t k f y i + tn m t k f z i
  | 0, f, y, z => by funext i; rfl
  | k + 1, f, y, z => by
    funext i
    show f 0 * (c * y i + z i) + tn m t k (fun j => f (j + 1)) (liftF m t fun i => c * y i + z i) i = c * (f 0 * y i + tn m t k (fun j => f (j + 1)) (liftF m t y) i) + (f 0 * z i + tn m t k (fun j => f (j + 1)) (liftF m t z) i)
    rw [liftF_lin, tn_lin c k]
    dsimp only
    rw [Nat.mul_add, Nat.mul_add, Nat.mul_left_comm]
    lia
theorem tn_comm : ∀ (k l : Nat) (f g y : Nat → Nat), tn m t k f (tn m t l g y) = tn m t l g (tn m t k f y)
  | 0, l, f, g, y => by
    show (fun _ => 0) = tn m t l g (fun _ => 0)
    have h := tn_lin (m := m) (t := t) 0 l g (fun _ => 0) (fun _ => 0)
    funext i
    have h2 := tn_lin (m := m) (t := t) 1 l g (fun _ => 0) (fun _ => 0)
    have h3 := congrFun h2 i
    simp at h3
    exact h3.symm
  | k + 1, l, f, g, y => by
    show (fun i => f 0 * tn m t l g y i + tn m t k (fun j => f (j + 1)) (liftF m t (tn m t l g y)) i) = tn m t l g (fun i => f 0 * y i + tn m t k (fun j => f (j + 1)) (liftF m t y) i)
    rw [tn_lift, tn_comm k, tn_lin]
noncomputable def unitF (s : Nat) : Nat → Nat := fun i => if i = s then 1 else 0
theorem lift_unit {s : Nat} (h : s + 1 < m) : liftF m t (unitF s) = unitF (s + 1) := by
  funext i
  unfold liftF shiftF unitF
  rw [if_neg (show ¬ m - 1 = s by lia), Nat.zero_mul, Nat.add_zero]
  by_cases hi : i < m
  · rw [if_pos hi]
    by_cases h0 : i = 0
    · rw [if_pos h0, if_neg (by lia)]
    · rw [if_neg h0]
      by_cases hs : i - 1 = s
      · rw [if_pos hs, if_pos (by lia)]
      · rw [if_neg hs, if_neg (by lia)]
  · rw [if_neg hi, if_neg (by lia)]
theorem tn_unit : ∀ (k s : Nat) (f : Nat → Nat) (i : Nat), s + k ≤ m → tn m t k f (unitF s) i = if s ≤ i ∧ i < s + k then f (i - s) else 0
  | 0, s, f, i, _ => by rw [if_neg (by lia)]; rfl
  | k + 1, s, f, i, h => by
    show f 0 * unitF s i + tn m t k (fun j => f (j + 1)) (liftF m t (unitF s)) i = _
    cases k with
    | zero =>
      show f 0 * unitF s i + 0 = _
      unfold unitF
      by_cases hi : i = s
      · rw [if_pos hi, if_pos (by lia)]; subst hi; simp
      · rw [if_neg hi, if_neg (by lia)]; simp
    | succ k =>
      rw [lift_unit (by lia), tn_unit (k + 1) (s + 1) _ i (by lia)]
      unfold unitF
      by_cases hi : i = s
      · subst hi; rw [if_pos rfl, if_neg (by lia), if_pos (by lia)]; simp
      · rw [if_neg hi]
        by_cases h2 : s + 1 ≤ i ∧ i < s + 1 + (k + 1)
        · rw [if_pos h2, if_pos (by lia)]
          show f 0 * 0 + f (i - (s + 1) + 1) = f (i - s)
          rw [Nat.mul_zero, Nat.zero_add]; congr 1; lia
        · rw [if_neg h2, if_neg (by lia)]; simp
theorem tn_one (f : Nat → Nat) (i : Nat) (hi : i < m) : tn m t m f (unitF 0) i = f i := by
  rw [tn_unit m 0 f i (by lia), if_pos (by lia), Nat.sub_zero]
end
/-! the laws of a field's things -/
section
variable {p m t : Nat} (hp : 2 ≤ p) (hm : 1 ≤ m)
include hp hm
theorem mul_comm (x y : Nat) : mul p m t x y = mul p m t y x := by
  refine ext_lt hp (mul_lt hp hm _ _) (mul_lt hp hm _ _) fun i hi => ?_
  rw [mul_dg hp hm _ _ i hi, mul_dg hp hm _ _ i hi]
  have h1 := tn_congr (p := p) hm (t := dgs p t) m (dgs p x) (dgs p y) (tn m (dgs p t) m (dgs p y) (unitF 0)) (fun j hj => by rw [tn_one _ j hj]) i hi
  have h2 := tn_congr (p := p) hm (t := dgs p t) m (dgs p y) (dgs p x) (tn m (dgs p t) m (dgs p x) (unitF 0)) (fun j hj => by rw [tn_one _ j hj]) i hi
  rw [h1, h2, tn_comm]
theorem mul_left_comm (x y z : Nat) : mul p m t x (mul p m t y z) = mul p m t y (mul p m t x z) := by
  refine ext_lt hp (mul_lt hp hm _ _) (mul_lt hp hm _ _) fun i hi => ?_
  rw [mul_dg hp hm _ _ i hi, mul_dg hp hm _ _ i hi]
  have h1 := tn_congr (p := p) hm (t := dgs p t) m (dgs p x) (dgs p (mul p m t y z)) (tn m (dgs p t) m (dgs p y) (dgs p z)) (fun j hj => by show dg p j _ % p = _; rw [mul_dg hp hm _ _ j hj, Nat.mod_mod]) i hi
  have h2 := tn_congr (p := p) hm (t := dgs p t) m (dgs p y) (dgs p (mul p m t x z)) (tn m (dgs p t) m (dgs p x) (dgs p z)) (fun j hj => by show dg p j _ % p = _; rw [mul_dg hp hm _ _ j hj, Nat.mod_mod]) i hi
  rw [h1, h2, tn_comm]
theorem mul_assoc (x y z : Nat) : mul p m t (mul p m t x y) z = mul p m t x (mul p m t y z) := by
  rw [mul_comm hp hm _ z, mul_left_comm hp hm z x y, mul_comm hp hm z y]
theorem one_lt : 1 < p ^ m := by
  have : p ^ 1 ≤ p ^ m := Nat.pow_le_pow_right (by lia) hm
  rw [Nat.pow_one] at this; lia
theorem dg_one (i : Nat) : dg p i 1 = unitF 0 i := by
  unfold unitF
  cases i with
  | zero => rw [dg_zero, if_pos rfl, Nat.mod_eq_of_lt (by lia)]
  | succ i => rw [if_neg (by lia), dg_succ, Nat.div_eq_of_lt (by lia), dg_nil]
theorem mul_one {x : Nat} (hx : x < p ^ m) : mul p m t x 1 = x := by
  refine ext_lt hp (mul_lt hp hm _ _) hx fun i hi => ?_
  rw [mul_dg hp hm _ _ i hi, show dgs p 1 = unitF 0 from funext fun i => dg_one hp hm i, tn_one _ i hi, dg_mod]
theorem one_mul {x : Nat} (hx : x < p ^ m) : mul p m t 1 x = x := by rw [mul_comm hp hm, mul_one hp hm hx]
theorem zero_mul (x : Nat) : mul p m t 0 x = 0 := by
  refine ext_lt hp (mul_lt hp hm _ _) (Nat.pow_pos (by lia)) fun i hi => ?_
  rw [mul_dg hp hm _ _ i hi, tn_zero _ _ _ _ (fun j => dg_nil p j), dg_nil]; simp
theorem mul_zero (x : Nat) : mul p m t x 0 = 0 := by rw [mul_comm hp hm, zero_mul hp hm]
/-! powers -/
noncomputable def pw (p m t x : Nat) : Nat → Nat
  | 0 => 1
  | n + 1 => mul p m t (pw p m t x n) x
theorem pw_lt (x n : Nat) : pw p m t x n < p ^ m := by
  cases n with
  | zero => exact one_lt hp hm
  | succ n => exact mul_lt hp hm _ _
theorem pw_add (x a : Nat) : ∀ b, pw p m t x (a + b) = mul p m t (pw p m t x a) (pw p m t x b)
  | 0 => (mul_one hp hm (pw_lt hp hm x a)).symm
  | b + 1 => by
    show mul p m t (pw p m t x (a + b)) x = mul p m t (pw p m t x a) (mul p m t (pw p m t x b) x)
    rw [pw_add x a b, mul_assoc hp hm]
theorem pw_one {x : Nat} (hx : x < p ^ m) : pw p m t x 1 = x := one_mul hp hm hx
theorem pw_mul (x a : Nat) : ∀ b, pw p m t x (a * b) = pw p m t (pw p m t x a) b
  | 0 => rfl
  | b + 1 => by
    rw [Nat.mul_succ, pw_add hp hm, pw_mul x a b]; rfl
theorem one_pw : ∀ n, pw p m t 1 n = 1
  | 0 => rfl
  | n + 1 => by
    show mul p m t (pw p m t 1 n) 1 = 1
    rw [one_pw n, mul_one hp hm (one_lt hp hm)]
end
end Dg

end
section
set_option linter.all false
set_option maxRecDepth 100000
namespace Dg
/-- for each p and m, and each top (of m 1: one for all): a thing whose powers are all things but 0, and 0; or two things but 0 whose product is 0 -/
noncomputable def certs : List (Nat × Nat × List (Nat × Nat)) := [(2, 1, [(1, 0)]), (2, 2, [(2, 2), (3, 3), (2, 3), (2, 0)]), (2, 3, [(2, 4), (3, 7), (2, 5), (2, 0), (2, 6), (2, 0), (2, 7), (3, 5)]), (2, 4, [(2, 8), (3, 15), (2, 9), (2, 0), (2, 10), (7, 7), (2, 11), (3, 13), (2, 12), (2, 0), (2, 13), (3, 9), (2, 14), (3, 11), (2, 15), (3, 0)]), (3, 1, [(2, 0)]), (3, 2, [(3, 3), (4, 5), (4, 0), (3, 5), (3, 0), (4, 4), (3, 4), (3, 0), (5, 5)]), (3, 3, [(3, 9), (5, 13), (4, 16), (3, 11), (6, 0), (3, 0), (3, 10), (4, 17), (5, 14), (3, 15), (4, 14), (3, 0), (3, 17), (4, 0), (4, 13), (3, 16), (5, 10), (3, 0), (3, 12), (5, 0), (5, 17), (3, 14), (4, 11), (3, 0), (3, 13), (4, 0), (4, 10)]), (5, 1, [(2, 0)]), (5, 2, [(5, 5), (6, 9), (7, 0), (6, 0), (7, 8), (5, 9), (7, 7), (6, 8), (5, 0), (6, 0), (5, 8), (6, 0), (5, 0), (6, 7), (9, 9), (5, 7), (8, 0), (5, 0), (8, 9), (6, 6), (5, 6), (8, 8), (7, 9), (5, 0), (7, 0)]), (7, 1, [(3, 0)]), (11, 1, [(2, 0)]), (13, 1, [(2, 0)]), (2, 5, [(2, 16), (3, 31), (2, 17), (7, 13), (2, 18), (2, 0), (2, 19), (3, 29), (2, 20), (2, 0), (2, 21), (3, 25), (2, 22), (3, 27), (2, 23), (2, 0), (2, 24), (7, 11), (2, 25), (3, 17), (2, 26), (3, 19), (2, 27), (2, 0), (2, 28), (3, 23), (2, 29), (2, 0), (2, 30), (2, 0), (2, 31), (3, 21)]), (2, 6, [(2, 32), (3, 63), (2, 33), (2, 0), (2, 34), (11, 11), (2, 35), (3, 61), (2, 36), (3, 0), (2, 37), (3, 57), (2, 38), (3, 59), (2, 39), (7, 25), (2, 40), (13, 13), (2, 41), (3, 49), (2, 42), (3, 51), (2, 43), (3, 0), (2, 44), (3, 55), (2, 45), (2, 0), (2, 46), (7, 31), (2, 47), (3, 53), (2, 48), (2, 0), (2, 49), (3, 33), (2, 50), (3, 35), (2, 51), (2, 0), (2, 52), (3, 39), (2, 53), (7, 21), (2, 54), (2, 0), (2, 55), (3, 37), (2, 56), (3, 47), (2, 57), (2, 0), (2, 58), (3, 0), (2, 59), (3, 45), (2, 60), (7, 19), (2, 61), (3, 41), (2, 62), (3, 43), (2, 63), (11, 13)]), (7, 2, [(7, 7), (8, 13), (10, 11), (8, 0), (9, 12), (8, 0), (9, 0), (7, 13), (9, 0), (8, 12), (9, 0), (7, 0), (10, 10), (9, 11), (7, 12), (9, 10), (7, 0), (8, 11), (7, 0), (8, 0), (13, 13), (7, 11), (8, 0), (7, 0), (9, 9), (8, 10), (12, 13), (8, 0), (7, 10), (11, 0), (7, 0), (12, 12), (11, 13), (8, 9), (11, 0), (7, 9), (11, 12), (7, 0), (10, 13), (7, 0), (10, 0), (8, 8), (7, 8), (10, 0), (9, 13), (10, 0), (7, 0), (11, 11), (10, 12)]), (61, 1, [(2, 0)]), (17, 1, [(3, 0)]), (19, 1, [(2, 0)]), (23, 1, [(5, 0)]), (29, 1, [(2, 0)]), (31, 1, [(3, 0)]), (37, 1, [(2, 0)]), (41, 1, [(6, 0)]), (43, 1, [(3, 0)]), (47, 1, [(5, 0)]), (53, 1, [(2, 0)]), (59, 1, [(2, 0)])]
noncomputable def menu : List (Nat × Nat) := certs.map fun c => (c.1, c.2.1)
noncomputable def pwsFrom (p m t b : Nat) : Nat → Nat → List Nat
  | _, 0 => []
  | x, n + 1 => x :: pwsFrom p m t b (mul p m t x b) n
noncomputable def lowB (p m t b : Nat) : Bool := ((pwsFrom p m t b 1 (p ^ m - 1)).drop 1).contains 1
noncomputable def okPrim (p m t b : Nat) : Bool := (List.range b).all (fun c => c == 0 || lowB p m t c) && !lowB p m t b && decide (0 < b) && (List.range (p ^ m)).all (fun y => y == 0 || (pwsFrom p m t b 1 (p ^ m - 1)).contains y) && (pwsFrom p m t b 1 (p ^ m)).getLast? == some 1 && decide (b < p ^ m)
noncomputable def okRow (p m t : Nat) (c : Nat × Nat) : Bool := if c.2 = 0 then okPrim p m t c.1 else decide (0 < c.1 ∧ c.1 < p ^ m ∧ c.1 < p ^ (m / 2 + 1) ∧ c.2 < p ^ m) && mul p m t c.1 c.2 == 0
noncomputable def okRows (p m : Nat) : Nat → List (Nat × Nat) → Bool
  | _, [] => true
  | t, c :: cs => okRow p m t c && okRows p m (t + 1) cs
noncomputable def okAll : Bool := certs.all fun c => okRows c.1 c.2.1 0 c.2.2
theorem all_ok : okAll = true := by decide +kernel
theorem pws_get {p m t b : Nat} : ∀ (n k i : Nat), i < n → (pwsFrom p m t b (pw p m t b k) n)[i]? = some (pw p m t b (k + i))
  | 0, k, i, h => absurd h (Nat.not_lt_zero _)
  | n + 1, k, 0, h => rfl
  | n + 1, k, i + 1, h => by
    show (pwsFrom p m t b (pw p m t b (k + 1)) n)[i]? = _
    rw [pws_get n (k + 1) i (by lia), show k + 1 + i = k + (i + 1) by lia]
theorem pws_len {p m t b : Nat} : ∀ (n x : Nat), (pwsFrom p m t b x n).length = n
  | 0, x => rfl
  | n + 1, x => by show (pwsFrom p m t b _ n).length + 1 = _; rw [pws_len n]
/-- all things but 0 are powers of b -/
structure Prim (p m t b : Nat) : Prop where
  lt : b < p ^ m
  round : pw p m t b (p ^ m - 1) = 1
  all : ∀ y, 0 < y → y < p ^ m → ∃ i, i < p ^ m - 1 ∧ pw p m t b i = y
  pos : 0 < b
  min : ∀ i, 0 < i → i < p ^ m - 1 → pw p m t b i ≠ 1
  low : ∀ c, 0 < c → c < b → ∃ i, 0 < i ∧ i < p ^ m - 1 ∧ pw p m t c i = 1
theorem low_of {p m t b : Nat} : lowB p m t b = true ↔ ∃ i, 0 < i ∧ i < p ^ m - 1 ∧ pw p m t b i = 1 := by
  unfold lowB
  rw [List.contains_iff_mem, List.mem_iff_getElem?]
  constructor
  · rintro ⟨j, h⟩
    rw [List.getElem?_drop] at h
    have hl : 1 + j < p ^ m - 1 := by have := (List.getElem?_eq_some_iff.mp h).1; rw [pws_len] at this; exact this
    have g := pws_get (p := p) (m := m) (t := t) (b := b) (p ^ m - 1) 0 (1 + j) hl
    rw [show pw p m t b 0 = 1 from rfl, h] at g
    exact ⟨1 + j, by lia, hl, by simpa using (Option.some.inj g).symm⟩
  · rintro ⟨i, h0, hi, e⟩
    refine ⟨i - 1, ?_⟩
    rw [List.getElem?_drop, show 1 + (i - 1) = i by lia]
    have g := pws_get (p := p) (m := m) (t := t) (b := b) (p ^ m - 1) 0 i hi
    rw [show pw p m t b 0 = 1 from rfl, Nat.zero_add, e] at g
    exact g
theorem prim_of_ok {p m t b : Nat} (hq : 0 < p ^ m) (h : okPrim p m t b = true) : Prim p m t b := by
  unfold okPrim at h
  simp only [Bool.and_eq_true] at h
  obtain ⟨⟨⟨⟨⟨k1, k2⟩, k3⟩, h1⟩, h2⟩, h3⟩ := h
  refine ⟨of_decide_eq_true h3, ?_, fun y hy hy2 => ?_, of_decide_eq_true k3, fun i hi hi2 e => ?_, fun c hc hc2 => ?_⟩
  · have e : (pwsFrom p m t b 1 (p ^ m)).getLast? = some 1 := by simpa using h2
    rw [List.getLast?_eq_getElem?, pws_len] at e
    have g := pws_get (p := p) (m := m) (t := t) (b := b) (p ^ m) 0 (p ^ m - 1) (by lia)
    rw [show pw p m t b 0 = 1 from rfl] at g
    rw [g] at e
    simpa using Option.some.inj e
  · rw [List.all_eq_true] at h1
    have g := h1 y (List.mem_range.mpr hy2)
    rw [Bool.or_eq_true] at g
    rcases g with g | g
    · have : y = 0 := by simpa using g
      lia
    · have g : y ∈ pwsFrom p m t b 1 (p ^ m - 1) := List.contains_iff_mem.mp g
      obtain ⟨i, hi, e⟩ := List.mem_iff_getElem.mp g
      rw [pws_len] at hi
      have g2 := pws_get (p := p) (m := m) (t := t) (b := b) (p ^ m - 1) 0 i hi
      rw [show pw p m t b 0 = 1 from rfl, List.getElem?_eq_getElem (by rw [pws_len]; exact hi), e] at g2
      exact ⟨i, hi, by simpa using (Option.some.inj g2).symm⟩
  · have := low_of.mpr ⟨i, hi, hi2, e⟩
    rw [this] at k2
    cases k2
  · have g := List.all_eq_true.mp k1 c (List.mem_range.mpr hc2)
    rw [Bool.or_eq_true] at g
    rcases g with g | g
    · have : c = 0 := by simpa using g
      lia
    · exact low_of.mp g
theorem okRows_get {p m : Nat} : ∀ (cs : List (Nat × Nat)) (t i : Nat) (c : Nat × Nat), okRows p m t cs = true → cs[i]? = some c → okRow p m (t + i) c = true
  | [], t, i, c, _, h => by simp at h
  | d :: cs, t, 0, c, h, e => by
    have h : (okRow p m t d && okRows p m (t + 1) cs) = true := h
    rw [Bool.and_eq_true] at h
    cases e
    exact h.1
  | d :: cs, t, i + 1, c, h, e => by
    have h : (okRow p m t d && okRows p m (t + 1) cs) = true := h
    rw [Bool.and_eq_true] at h
    have g := okRows_get cs (t + 1) i c h.2 (by simpa using e)
    rw [show t + (i + 1) = t + 1 + i by lia]; exact g
theorem mul_top1 (p t x y : Nat) : mul p 1 t x y = mul p 1 0 x y := rfl
theorem pw_top1 (p t x : Nat) : ∀ n, pw p 1 t x n = pw p 1 0 x n
  | 0 => rfl
  | n + 1 => by
    show mul p 1 t (pw p 1 t x n) x = mul p 1 0 (pw p 1 0 x n) x
    rw [pw_top1 p t x n, mul_top1]
/-- the fields that are drawn -/
structure Good (p m t : Nat) : Prop where
  mem : (p, m) ∈ menu
  top : t < p ^ m
  no : m = 1 ∨ ∀ x y, 0 < x → x < p ^ m → x < p ^ (m / 2 + 1) → 0 < y → y < p ^ m → mul p m t x y ≠ 0
noncomputable def certLens : Bool := certs.all fun c => decide (2 ≤ c.1 ∧ 1 ≤ c.2.1 ∧ c.1 ^ c.2.1 ≤ 64) && (if c.2.1 = 1 then decide (c.2.2.length = 1) && c.2.2.all (fun d => d.2 == 0) else decide (c.2.2.length = c.1 ^ c.2.1))
theorem cert_lens : certLens = true := by decide +kernel
theorem menu_small {p m : Nat} (h : (p, m) ∈ menu) : 2 ≤ p ∧ 1 ≤ m ∧ p ^ m ≤ 64 := by
  obtain ⟨c, hc, e⟩ := List.mem_map.mp h
  cases e
  have g := List.all_eq_true.mp cert_lens c hc
  rw [Bool.and_eq_true] at g
  exact of_decide_eq_true g.1
theorem Good.prim {p m t : Nat} (h : Good p m t) : ∃ b, Prim p m t b := by
  obtain ⟨c, hc, e⟩ := List.mem_map.mp h.mem
  obtain ⟨p', m', cs⟩ := c
  obtain ⟨rfl, rfl⟩ : p' = p ∧ m' = m := by simpa using e
  have hs := menu_small h.mem
  have hq : 0 < p' ^ m' := Nat.pow_pos (by lia)
  have g := List.all_eq_true.mp cert_lens _ hc
  have a := List.all_eq_true.mp all_ok _ hc
  rw [Bool.and_eq_true] at g
  have g := g.2
  dsimp only at g a
  by_cases h1 : m' = 1
  · subst h1
    rw [if_pos rfl, Bool.and_eq_true] at g
    have hl : cs.length = 1 := of_decide_eq_true g.1
    obtain ⟨c, rfl⟩ : ∃ c, cs = [c] := by
      cases cs with
      | nil => simp at hl
      | cons c r => cases r with
        | nil => exact ⟨c, rfl⟩
        | cons d r => simp at hl
    have a1 := okRows_get [c] 0 0 c a rfl
    have c0 : c.2 = 0 := by simpa using List.all_eq_true.mp g.2 c (by simp)
    unfold okRow at a1
    rw [if_pos c0] at a1
    have P := prim_of_ok hq a1
    refine ⟨c.1, P.lt, ?_, fun y hy hy2 => ?_, P.pos, fun i h1 h2 => ?_, fun d h1 h2 => ?_⟩
    · rw [pw_top1]; exact P.round
    · obtain ⟨i, hi, e⟩ := P.all y hy hy2
      exact ⟨i, hi, by rw [pw_top1]; exact e⟩
    · rw [pw_top1]; exact P.min i h1 h2
    · obtain ⟨i, a, b, e⟩ := P.low d h1 h2
      exact ⟨i, a, b, by rw [pw_top1]; exact e⟩
  · rw [if_neg h1] at g
    have hl : cs.length = p' ^ m' := of_decide_eq_true g
    have ht : t < cs.length := by rw [hl]; exact h.top
    have a1 := okRows_get cs 0 t cs[t] a (List.getElem?_eq_getElem ht)
    rw [Nat.zero_add] at a1
    unfold okRow at a1
    by_cases c0 : cs[t].2 = 0
    · rw [if_pos c0] at a1
      exact ⟨_, prim_of_ok hq a1⟩
    · rw [if_neg c0, Bool.and_eq_true] at a1
      have b := of_decide_eq_true a1.1
      rcases h.no with h2 | h2
      · exact absurd h2 h1
      · exact absurd (by simpa using a1.2) (h2 _ _ b.1 b.2.1 b.2.2.1 (by lia) b.2.2.2)
section
variable {p m t : Nat} (G : Good p m t)
include G
theorem Good.hp : 2 ≤ p := (menu_small G.mem).1
theorem Good.hm : 1 ≤ m := (menu_small G.mem).2.1
theorem Good.hq : p ^ m ≤ 64 := (menu_small G.mem).2.2
theorem Good.fermat {x : Nat} (h0 : 0 < x) (hx : x < p ^ m) : pw p m t x (p ^ m - 1) = 1 := by
  obtain ⟨b, P⟩ := G.prim
  obtain ⟨i, _, rfl⟩ := P.all x h0 hx
  rw [← pw_mul G.hp G.hm, Nat.mul_comm, pw_mul G.hp G.hm, P.round, one_pw G.hp G.hm]
/-- the powers of b differ -/
theorem Good.inj {b : Nat} (P : Prim p m t b) : ∀ i j, i < p ^ m - 1 → j < p ^ m - 1 → pw p m t b i = pw p m t b j → i = j := by
  have key : ∀ i j, i < j → j < p ^ m - 1 → pw p m t b i ≠ pw p m t b j := by
    intro i j hij hj e
    have hp := G.hp
    have hm := G.hm
    have h1 : mul p m t (pw p m t b (p ^ m - 1 - i)) (pw p m t b i) = 1 := by rw [← pw_add hp hm, show p ^ m - 1 - i + i = p ^ m - 1 by lia, P.round]
    have h2 : mul p m t (pw p m t b (p ^ m - 1 - i)) (pw p m t b j) = pw p m t b (j - i) := by
      rw [show j = i + (j - i) by lia, pw_add hp hm, ← mul_assoc hp hm, h1, one_mul hp hm (pw_lt hp hm _ _), show i + (j - i) - i = j - i by lia]
    rw [← e, h1] at h2
    exact P.min (j - i) (by lia) (by lia) h2.symm
  intro i j hi hj e
  rcases Nat.lt_trichotomy i j with h | h | h
  · exact absurd e (key i j h hj)
  · exact h
  · exact absurd e.symm (key j i h hi)
theorem Good.pw_mod {x : Nat} (h0 : 0 < x) (hx : x < p ^ m) (n : Nat) : pw p m t x (n % (p ^ m - 1)) = pw p m t x n := by
  have e := Nat.div_add_mod n (p ^ m - 1)
  have g : pw p m t x n = mul p m t (pw p m t x ((p ^ m - 1) * (n / (p ^ m - 1)))) (pw p m t x (n % (p ^ m - 1))) := by rw [← pw_add G.hp G.hm, e]
  rw [g, pw_mul G.hp G.hm, G.fermat h0 hx, one_pw G.hp G.hm, one_mul G.hp G.hm (pw_lt G.hp G.hm _ _)]
end
end Dg

end
section
set_option linter.all false
namespace Dg
/-! sums of things, products of rows -/
end Dg

end
section
set_option linter.all false
namespace Dg
end Dg

end
section
set_option Elab.async false
set_option linter.all false
set_option maxRecDepth 100000
set_option maxHeartbeats 4000000
namespace Dg
/-! the p-th power of a sum, by a certificate of 1 + y alone -/
/-! in parts: the whole at once takes 2.4 GB of memory, which BUILD counts (-M 12000) -/
end Dg

end
section
set_option Elab.async false
set_option linter.all false
set_option maxRecDepth 100000
namespace L2
open PySem PySem.Spec PyProof.Rows
/-! ### reversed(range(n)) -/
section
variable {X : Cx}
/-! ### a list or a tuple -/
end
end L2

end
section
set_option Elab.async false
set_option linter.all false
set_option maxRecDepth 100000
set_option maxHeartbeats 4000000
namespace L2
open PySem PyProof.Rows
noncomputable abbrev itx (i : Int) : List Nat := (PyData.int i).shown.cps.toList
end L2

end
section
set_option Elab.async false
set_option linter.all false
set_option maxRecDepth 100000
set_option maxHeartbeats 4000000
namespace L2
open PySem PySem.Spec PyProof.Rows
/-! ### an exception object -/
/-! ### an exception behind a call -/
end L2

end
section
set_option Elab.async false
set_option linter.all false
set_option maxRecDepth 100000
set_option maxHeartbeats 4000000
namespace L2
open PySem PySem.Spec PyProof.Rows
/-! ### own exception classes, as the fragment has them -/
/-! ### raise C(..) -/
/-! ### try -/
end L2

end
section
set_option Elab.async false
set_option linter.all false
set_option maxRecDepth 100000
set_option maxHeartbeats 4000000
namespace L2
open PySem PySem.Spec PyProof.Rows PySem.W
/-! ### isinstance of a caught exception (or None) -/
end L2
namespace L2
open PySem PySem.Spec PyProof.Rows PySem.W
end L2
namespace L2
open PySem PySem.Spec PyProof.Rows
/-! ### lists of flat values compared -/
end L2
namespace L2
open PySem PySem.Spec PyProof.Rows
end L2
namespace L2
open PySem PySem.Spec PyProof.Rows
end L2

end
section
set_option Elab.async false
set_option linter.all false
set_option maxRecDepth 100000
set_option maxHeartbeats 4000000
namespace L2
open PySem PySem.Spec PyProof.Rows
section
variable {X : Cx}
/-! ### xs.index(k), a list of ints -/
end
end L2
namespace L2
open PySem PySem.Spec PyProof.Rows
section
variable {X : Cx}
/-! ### range(a, b) as an object -/
end
end L2

end
section
set_option Elab.async false
set_option linter.all false
set_option maxRecDepth 100000
set_option maxHeartbeats 4000000
namespace L2
open PySem PySem.Spec PyProof.Rows
section
variable {X : Cx}
/-! ### repr of a text -/
/-! ### a text or a tuple against a text -/
end
end L2
namespace L2
open PySem PySem.Spec PyProof.Rows
section
variable {X : Cx}
/-! ### repr of a tuple, by its data -/
end
end L2
namespace L2
open PySem PySem.Spec PyProof.Rows PySem.W
end L2

end
section
set_option Elab.async false
set_option linter.all false
set_option maxRecDepth 100000
set_option maxHeartbeats 4000000
namespace L2
open PySem PySem.Spec PyProof.Rows
/-! ### a comprehension whose own names are captured by a comprehension within -/
end L2
namespace L2
open PySem PySem.Spec PyProof.Rows
end L2

end
section
set_option Elab.async false
set_option linter.all false
set_option maxRecDepth 100000
set_option maxHeartbeats 4000000
namespace L2
open PySem PySem.Spec PyProof.Rows
section
variable {X : Cx}
/-! ### is, of bools -/
/-! ### isinstance of any value of a known kind, dicts too -/
/-! ### str of an int, of a tuple by its data -/
theorem boot_ty_str : bootBuiltins "str" = some (.type "str") := by decide +kernel
end
end L2

end
section
set_option Elab.async false
set_option linter.all false
set_option maxRecDepth 100000
set_option maxHeartbeats 4000000
namespace L2
open PySem PyProof.Rows
/-- a thing of any kind but a dict, read as data, n deep -/
noncomputable def RdL (K : PySem.W.Frag) (H : Hp) : Nat → V → PyData → Prop
  | 0, _, _ => False
  | n + 1, v, d => (v = .non ∧ d = .none) ∨ (∃ b, v = .bl b ∧ d = .bool b) ∨ (∃ i : Int, v = .int i ∧ d = .int i) ∨ (∃ x, v = .str x ∧ d = .str x) ∨
    (Ex3 fun (a : Addr) (xs : List V) (ds : List PyData) => v = .ref a ∧ d = .tuple ds ∧ SqT K H a xs ∧ xs.length = ds.length ∧ ∀ (i : Nat) x e, xs[i]? = some x → ds[i]? = some e → RdL K H n x e) ∨
    Ex3 fun (a : Addr) (xs : List V) (ds : List PyData) => v = .ref a ∧ d = .list ds ∧ SqL K H a xs ∧ xs.length = ds.length ∧ ∀ (i : Nat) x e, xs[i]? = some x → ds[i]? = some e → RdL K H n x e
theorem readsAll_ex {h : Heap} : ∀ {us : List Value} {ds : List PyData}, us.length = ds.length → (∀ (i : Nat) u e, us[i]? = some u → ds[i]? = some e → ∃ as, Reads h u e as) → ∃ as, ReadsAll h us ds as
  | [], [], _, _ => ⟨_, .nil⟩
  | [], _ :: _, hl, _ => by cases hl
  | _ :: _, [], hl, _ => by cases hl
  | u :: us, d :: ds, hl, hr => by
    obtain ⟨as, h1⟩ := hr 0 u d rfl rfl
    obtain ⟨bs, h2⟩ := readsAll_ex (us := us) (ds := ds) (by simpa using hl) fun i u' e hu he => hr (i + 1) u' e hu he
    exact ⟨_, .cons h1 h2⟩
section
variable {X : Cx}
theorem reads_ofL {pins : List (Addr × Obj)} {σ : St} {H : Hp} {s : Shared} (I : Inv X pins σ H s) : ∀ (n : Nat) (x : V) (d : PyData) (u : Value), RdL X.K H n x d → RelV x u → ∃ as, Reads s.heap u d as
  | 0, _, _, _, h, _ => h.elim
  | n + 1, x, d, u, h, r => by
    have seq : ∀ {xs : List V} {us : List Value} {ds : List PyData}, Vals xs us → xs.length = ds.length → (∀ (i : Nat) x e, xs[i]? = some x → ds[i]? = some e → RdL X.K H n x e) → ∃ as, ReadsAll s.heap us ds as := fun {xs us ds} r1 hl hx => by
      have l1 := r1.length
      refine readsAll_ex (by lia) fun i u e hu he => ?_
      have hi := (List.getElem?_eq_some_iff.mp hu).1
      obtain ⟨x1, e1, q1⟩ := vals_get r1 (i := i) (by simpa using hi)
      have eu : us.toArray[i]'(by simpa using hi) = u := by
        have := (List.getElem?_eq_some_iff.mp hu).2
        simpa using this
      rw [eu] at q1
      exact reads_ofL I n x1 e u (hx i x1 e e1 he) q1
    rcases h with ⟨rfl, rfl⟩ | ⟨b, rfl, rfl⟩ | ⟨i, rfl, rfl⟩ | ⟨z, rfl, rfl⟩ | ⟨a, xs, ds, rfl, rfl, ha, hl, hx⟩ | ⟨a, xs, ds, rfl, rfl, ha, hl, hx⟩
    · cases r; exact ⟨_, .none⟩
    · cases r; exact ⟨_, .bool b⟩
    · obtain ⟨t, rfl⟩ := r; exact ⟨_, .int i t⟩
    · obtain ⟨t, rfl⟩ := r; exact ⟨_, .str z t⟩
    · cases r
      obtain ⟨us, r1, ⟨o, ho, hc, k, hd⟩, z1⟩ := I.tuple ha
      obtain ⟨as, q⟩ := seq r1 hl hx
      exact ⟨_, .tuple ho hc hd q⟩
    · cases r
      obtain ⟨us, r1, ⟨o, n', ho, hc, _, hd⟩, z1⟩ := I.list ha
      obtain ⟨as, q⟩ := seq r1 hl hx
      exact ⟨_, .list ho hc hd q⟩
/-- a thing of ints, tuples and dicts of one int (of a thing of ints and tuples) -/
noncomputable def RdD (K : PySem.W.Frag) (H : Hp) : Nat → V → PyData → Prop
  | 0, _, _ => False
  | n + 1, v, d => (∃ i : Int, v = .int i ∧ d = .int i) ∨
    (Ex3 fun (a : Addr) (xs : List V) (ds : List PyData) => v = .ref a ∧ d = .tuple ds ∧ SqT K H a xs ∧ xs.length = ds.length ∧ ∀ (i : Nat) x e, xs[i]? = some x → ds[i]? = some e → RdD K H n x e) ∨
    (Ex5 fun (a : Addr) (k : Int) (x : V) (e : PyData) (m : Nat) => v = .ref a ∧ d = .dict [(.int k, e)] ∧ H a = some (.dK [(.inl k, x)]) ∧ RdN K H m x e) ∨ ∃ a : Addr, v = .ref a ∧ d = .dict [] ∧ H a = some (.dK [])
theorem readsAll_sys {h : Heap} : ∀ {us : List Value} {ds : List PyData}, us.length = ds.length → (∀ (i : Nat) u e, us[i]? = some u → ds[i]? = some e → ∃ as, Reads h u e as ∧ sysModules ∉ as) → ∃ as, ReadsAll h us ds as ∧ sysModules ∉ as
  | [], [], _, _ => ⟨_, .nil, List.not_mem_nil⟩
  | [], _ :: _, hl, _ => by cases hl
  | _ :: _, [], hl, _ => by cases hl
  | u :: us, d :: ds, hl, hr => by
    obtain ⟨as, h1, n1⟩ := hr 0 u d rfl rfl
    obtain ⟨bs, h2, n2⟩ := readsAll_sys (us := us) (ds := ds) (by simpa using hl) fun i u' e hu he => hr (i + 1) u' e hu he
    exact ⟨_, .cons h1 h2, fun q => (List.mem_append.mp q).elim n1 n2⟩
theorem reads_ofD {pins : List (Addr × Obj)} {σ : St} {H : Hp} {s : Shared} (I : Inv X pins σ H s) : ∀ (n : Nat) (x : V) (d : PyData) (u : Value), RdD X.K H n x d → RelV x u → ∃ as, Reads s.heap u d as ∧ sysModules ∉ as
  | 0, _, _, _, h, _ => h.elim
  | n + 1, x, d, u, h, r => by
    rcases h with ⟨i, rfl, rfl⟩ | ⟨a, xs, ds, rfl, rfl, ha, hl, hx⟩ | ⟨a, k, x, e, m, rfl, rfl, ha, hx⟩ | ⟨a, rfl, rfl, ha⟩
    · obtain ⟨t, rfl⟩ := r; exact ⟨_, .int i t, List.not_mem_nil⟩
    · cases r
      obtain ⟨us, r1, ⟨o, ho, hc, k, hd⟩, z1⟩ := I.tuple ha
      have l1 := r1.length
      obtain ⟨as, q, nq⟩ := readsAll_sys (h := s.heap) (us := us) (ds := ds) (by lia) fun i u e hu he => by
        have hi := (List.getElem?_eq_some_iff.mp hu).1
        obtain ⟨x1, e1, q1⟩ := vals_get r1 (i := i) (by simpa using hi)
        have eu : us.toArray[i]'(by simpa using hi) = u := by
          have := (List.getElem?_eq_some_iff.mp hu).2
          simpa using this
        rw [eu] at q1
        exact reads_ofD I n x1 e u (hx i x1 e e1 he) q1
      exact ⟨_, .tuple ho hc hd q, nq⟩
    · cases r
      obtain ⟨hz, hS, vs, hv, o, es, ep, ho, hex, hd, _, hp, _⟩ : [((.inl k : Key), x)].length ≤ sizeLine ∧ (a == sysModules) = false ∧ ∃ vs, KV [((.inl k : Key), x)] vs ∧ s.heap.DictOf (mixKind X.prog X.w) a vs := I.hok a _ ha
      cases hv with
      | cons hh ht =>
        cases ht
        obtain ⟨e1, e2⟩ := hh
        dsimp only at e1 e2
        generalize he : es.toList = el at hp
        cases hp with
        | cons hk hval hp' =>
          cases hp'
          rename_i en
          obtain ⟨t, ek⟩ := Value.isInt_shape (k := k) (v := en.key) (by rw [← e1] at hk; exact hk)
          have R := reads_of I m x e _ hx e2
          refine ⟨_, .dict (as := []) (bs := []) ho hex.1 hd ?_ ?_, ?_⟩
          · rw [he]
            show ReadsAll s.heap [en.key] [.int k] []
            rw [ek]
            exact .cons (as := []) (bs := []) (.int k t) .nil
          · rw [he]
            show ReadsAll s.heap [en.val] [e] []
            rw [hval]
            exact .cons (as := []) (bs := []) R .nil
          · intro q
            have q : sysModules = a := by simpa using q
            rw [q] at hS
            simp at hS
    · cases r
      obtain ⟨hz, hS, vs, hv, o, es, ep, ho, hex, hd, _, hp, _⟩ : ([] : List (Key × V)).length ≤ sizeLine ∧ (a == sysModules) = false ∧ ∃ vs, KV [] vs ∧ s.heap.DictOf (mixKind X.prog X.w) a vs := I.hok a _ ha
      cases hv
      generalize he : es.toList = el at hp
      cases hp
      refine ⟨_, .dict (as := []) (bs := []) ho hex.1 hd ?_ ?_, ?_⟩
      · rw [he]; exact .nil
      · rw [he]; exact .nil
      · intro q
        have q : sysModules = a := by simpa using q
        rw [q] at hS
        simp at hS
/-- repr of any thing that holds no dict, or of ints, tuples and dicts of one int -/
noncomputable def rReprA (K : PySem.W.Frag) : List V → Hp → VK → Prop := fun vs H Q => Ex3 fun (v : V) (d : PyData) (n : Nat) => vs = [v] ∧ (RdL K H n v d ∧ d.hasDict = false ∨ RdD K H n v d) ∧ d.showable = true ∧ d.depth ≤ 50 ∧ d.shown.length ≤ sizeLine ∧ Q (.str d.shown) H
theorem call_reprA (hg : X.A.guards = some []) (hu : X.A.units + 64 < cLine) : CallR X (.builtin "repr") (rReprA X.K) := by
  intro pins s σ H vs us Q I r h
  obtain ⟨v, d, n, rfl, hr, h1, h3, h4, q⟩ := h
  obtain ⟨u, rfl, rx⟩ := vals1 r
  obtain ⟨as, R, hsm⟩ : ∃ as, Reads s.heap u d as ∧ (d.hasDict = true → sysModules ∉ as) := by
    rcases hr with ⟨hr, h2⟩ | hr
    · obtain ⟨as, R⟩ := reads_ofL I n v d u hr rx
      exact ⟨as, R, fun e => by rw [h2] at e; cases e⟩
    · obtain ⟨as, R, nq⟩ := reads_ofD I n v d u hr rx
      exact ⟨as, R, fun _ => nq⟩
  have fin : ∀ (h' : Heap) (tk : Nat) (t : Tok), (∀ b o, s.heap.get? b = some o → h'.get? b = some o) → EP X pins σ Q (.str d.shown t) { s with heap := h', toks := tk } := fun h' tk t hk => ⟨.str d.shown, H, I.kept (fun b o e => hk b o e), ⟨t, rfl⟩, q⟩
  have hdep : X.A.units + (d.depth + 1) < cLine := by lia
  cases R with
  | none => exact P.repr_of_none (fin s.heap (s.toks + 1) s.toks fun _ _ e => e)
  | bool b => exact P.repr_of_bool (fin s.heap (s.toks + 1) s.toks fun _ _ e => e)
  | int i t => exact P.repr_of_int (by simpa [PyData.showable] using h1) (fin s.heap (s.toks + 1) s.toks fun _ _ e => e)
  | str x t => exact P.repr_of_str (fin s.heap (s.toks + 1) s.toks fun _ _ e => e) (by simpa only [PyData.shown] using h4)
  | list a b c e => exact repr_of_reads' (.list a b c e) h1 hsm hg hdep (fun _ _ e => e) (fun h' t tk hk => fin h' tk t hk) h4
  | tuple a b c e => exact repr_of_reads' (.tuple a b c e) h1 hsm hg hdep (fun _ _ e => e) (fun h' t tk hk => fin h' tk t hk) h4
  | dict a b c e f => exact repr_of_reads' (.dict a b c e f) h1 hsm hg hdep (fun _ _ e => e) (fun h' t tk hk => fin h' tk t hk) h4
end
end L2

end
section
set_option Elab.async false
set_option linter.all false
set_option maxRecDepth 100000
set_option maxHeartbeats 4000000
namespace L2
open PySem PyProof.Rows
/-! ### sorted(set(a tuple of ints)); str with its text -/

section
variable {X : Cx}
/-- str of an int, of a tuple by its data: the text -/
noncomputable def rStrS (K : PySem.W.Frag) : List V → Hp → VK → Prop := fun vs H Q => Ex2 fun (x : V) (z : Str) => vs = [x] ∧ ((∃ i : Int, x = .int i ∧ i.natAbs.log2 < 1920 ∧ z = (PyData.int i).shown) ∨ (Ex2 fun (a : Addr) (d : PyData) => x = .ref a ∧ RdN K H 10 (.ref a) d ∧ DOk d (2 ^ 20) ∧ z = d.shown)) ∧ Q (.str z) H
theorem call_strS (hg : X.A.guards = some []) (hu : X.A.units + 64 < cLine) : CallR X (.type "str") (rStrS X.K) := by
  intro pins s σ H vs us Q I r h
  obtain ⟨x, z, rfl, hx, q⟩ := h
  obtain ⟨u, rfl, rx⟩ := vals1 r
  rcases hx with ⟨i, rfl, hi, rfl⟩ | ⟨a, d, rfl, hd, ok, rfl⟩
  · obtain ⟨t, rfl⟩ := rx
    exact P.str_of_int hi ⟨.str _, H, I.tok _, ⟨_, rfl⟩, q⟩
  · cases rx
    have R := reads_of I 10 (.ref a) d (.ref a) hd rfl
    refine str_of_reads R ok.sh (PyData.noDict_hsm ok.nd) hg (by have := ok.dp; lia) (fun _ _ e => e) (fun h' u tk hk => ?_) (PyData.shown_fits (B := 8) (by decide) (by decide) ok.sl ok.we)
    exact ⟨.str _, H, I.kept (fun b o e => hk b o e), ⟨u, rfl⟩, q⟩
end
end L2

end
section
set_option Elab.async false
set_option linter.all false
set_option maxRecDepth 100000
set_option maxHeartbeats 4000000
namespace L2
open PySem PySem.Spec PyProof.Rows
/-! ### tuple(zip(a, b)) -/
section
variable {X : Cx} {pins : List (Addr × Obj)} {σ : St} {H H' : Hp} {s : Shared}
/-! ### a tuple that is () -/
end
end L2

end
section
set_option Elab.async false
set_option linter.all false
set_option maxRecDepth 100000
set_option maxHeartbeats 4000000
namespace L2
open PySem PySem.Spec PyProof.Rows
/-! ### texts: walked, split, joined, read as numbers -/
/-- a text's signs -/
noncomputable def Its (x : Str) : It := ⟨fun i _ => i < x.length, fun i H v H' => H' = H ∧ ∃ c, x.cps[i]? = some c ∧ v = .str ⟨#[c]⟩, fun i _ => x.length ≤ i⟩
theorem turn_str {P : Program} {w : World} {K : PySem.W.Frag} {tg : Expr} {ty : String} (hty : ty = "str_ascii_iterator" ∨ ty = "str_iterator") (it : Addr) (x : Str) (t : Tok) : Turn P w K tg (Its x) [it] it (fun i h => h.IsStrIter it ty x t i) where
  mem := by simp
  obj := fun i h st b hb => by
    have e : b = it := by simpa using hb
    subst e
    obtain ⟨o, e, c, d⟩ := st
    exact ⟨o, e, fun v z => by rw [d] at z; cases z⟩
  keep := fun i h h' st k => by
    obtain ⟨o, ho, r⟩ := st
    exact ⟨o, k it (by simp) o ho, r⟩
  item := by
    intro X hP hw hK hc i pins s σ H E I hf st hg
    subst hP hw hK
    obtain ⟨f0, f1, f2, f3, f4, f5⟩ := hf it (by simp)
    have hx : x.cps[i]? = some x.cps[i] := Array.getElem?_eq_getElem hg
    rcases hty with rfl | rfl
    · refine wpAny_pyNext_ascii_item st hx fun h' st' sb => ?_
      have I1 : Inv X pins σ H { s with heap := h', toks := s.toks + 1 } := I.turned (t' := s.toks + 1) (fun b o hb e => (sb.2 b hb).trans e) f0 f1 f3 f4 f5
      obtain ⟨o, e, c, d⟩ := id st'
      exact ⟨_, rfl, go_of (s := { s with heap := h', toks := s.toks + 1 }) e c d (by decide) ⟨.str ⟨#[x.cps[i]]⟩, H, I1, ⟨_, rfl⟩, ⟨rfl, _, hx, rfl⟩, st', fun b hb => (hf b hb).1⟩⟩
    · refine wpAny_pyNext_wide_item st hx fun h' st' sb => ?_
      have I1 : Inv X pins σ H { s with heap := h', toks := s.toks + 1 } := I.turned (t' := s.toks + 1) (fun b o hb e => (sb.2 b hb).trans e) f0 f1 f3 f4 f5
      obtain ⟨o, e, c, d⟩ := id st'
      exact ⟨_, rfl, go_of (s := { s with heap := h', toks := s.toks + 1 }) e c d (by decide) ⟨.str ⟨#[x.cps[i]]⟩, H, I1, ⟨_, rfl⟩, ⟨rfl, _, hx, rfl⟩, st', fun b hb => (hf b hb).1⟩⟩
  done := by
    intro X hP hw hK hc i pins s σ H E I hf st hg
    subst hP hw hK
    obtain ⟨f0, f1, f2, f3, f4, f5⟩ := hf it (by simp)
    have hx : x.cps[i]? = none := Array.getElem?_eq_none hg
    rcases hty with rfl | rfl
    · exact wpAny_pyNext_ascii_end (I.ok.hd hc) st hx fun h' eb => ⟨rfl, I.turned (t' := s.toks) (fun b o hb e => eb b o hb e) f0 f1 f3 f4 f5⟩
    · exact wpAny_pyNext_wide_end (I.ok.hd hc) st hx fun h' eb => ⟨rfl, I.turned (t' := s.toks) (fun b o hb e => eb b o hb e) f0 f1 f3 f4 f5⟩
  self := fun _ _ _ _ _ st h => by
    rcases hty with rfl | rfl
    · exact wpAny_pyIter_striter_ascii st h
    · exact wpAny_pyIter_striter_wide st h
theorem seqs_str {x : Str} : Seqs (Its x) x.length (fun _ => True) (fun i v H H' => H' = H ∧ ∃ c, x.cps[i]? = some c ∧ v = .str ⟨#[c]⟩) :=
  ⟨fun i H hi _ => hi, fun H _ => Nat.le_refl _, fun i H v H' hi _ q => q⟩
theorem vals_strs : ∀ {ys : List Str} {us : List Value}, Vals (ys.map V.str) us → ∃ l : List (Str × Tok), strValues l = us ∧ l.map (·.1) = ys
  | [], _, h => by cases h; exact ⟨[], rfl, rfl⟩
  | y :: ys, _, h => by
    cases h with
    | cons r t =>
      obtain ⟨u, rfl⟩ := r
      obtain ⟨l, rfl, rfl⟩ := vals_strs t
      exact ⟨(y, u) :: l, rfl, rfl⟩
theorem strs_vals : ∀ l : List (Str × Tok), Vals ((l.map (·.1)).map V.str) (strValues l)
  | [] => .nil
  | (y, t) :: l => .cons ⟨t, rfl⟩ (strs_vals l)
section
variable {X : Cx} {tg : Expr}
inductive GIts (x : V) (H : Hp) (R : It → Hp → Prop) : Prop
  | mk (z : Str) (e : x = .str z) (q : R (Its z) H) : GIts x H R
noncomputable def iStr (tl : TE) : TI := fun σ H R => tl σ H fun x H1 => GIts x H1 R
theorem pi_str {l : Expr} {tl : TE} (hl : PE X l tl) : PI X tg l (iStr tl) := by
  intro pins s σ H R I h
  refine thn (hl pins s σ H _ I h) fun v s1 hq => ?_
  obtain ⟨x, H1, I1, r1, q1⟩ := hq
  obtain ⟨z, rfl, q⟩ := q1
  obtain ⟨t, rfl⟩ := r1
  have fin : ∀ (ty : String) (hty : ty = "str_ascii_iterator" ∨ ty = "str_iterator"), PIE X pins σ tg R (.ref s1.heap.objs.size) { s1 with heap := s1.heap.push { cls := .type ty, data := .fields #[.str z t, rawInt 0] } } := fun ty hty => by
    refine ⟨s1.heap.objs.size, [s1.heap.objs.size], _, _, H1, rfl, I1.kept (t' := s1.toks) fun b o e => Heap.get?_push_of_some _ e, turn_str hty _ z t, ⟨_, Heap.get?_push_size _ rfl, rfl, rfl⟩, fun b hb => ?_, q⟩
    have e : b = s1.heap.objs.size := by simpa using hb
    subst e
    exact I1.fpOk (Nat.le_refl _) (I1.hok.fresh (Nat.le_refl _))
  cases ha : z.cps.all (· < 128)
  · exact wpAny_pyIter_wide ha (fin _ (.inr rfl))
  · exact wpAny_pyIter_ascii ha (fin _ (.inl rfl))
noncomputable def rInS : R2 := fun x y H Q => Ex2 fun (a b : Str) => x = .str a ∧ y = .str b ∧ Q (.bl (!(Builtin.Str.occurrences b a 0 b.length 1).isEmpty)) H
theorem op_inS : OpR X (compareOp .In) rInS := by
  intro pins s σ H x y v u Q I rx ry h
  obtain ⟨a, b, rfl, rfl, q⟩ := h
  obtain ⟨t, rfl⟩ := rx
  obtain ⟨t', rfl⟩ := ry
  exact PyProof.Rows.in_str ⟨.bl _, H, I, rfl, q⟩
theorem call_lenS : CallR X (.builtin "len") (fun xs H Q => ∃ z : Str, xs = [.str z] ∧ z.length ≤ sizeLine ∧ Q (.int z.length) H) := by
  intro pins s σ H xs us Q I r h
  obtain ⟨z, rfl, hz, q⟩ := h
  obtain ⟨u, rfl, rx⟩ := vals1 r
  obtain ⟨t, rfl⟩ := rx
  have := line63
  exact PyProof.Rows.len_str (by lia) ⟨.int z.length, H, I.redraw rfl rfl rfl, ⟨_, rfl⟩, q⟩
noncomputable def rAddS : R2 := fun x y H Q => Ex2 fun (a b : Str) => x = .str a ∧ y = .str b ∧ a.length + b.length ≤ sizeLine ∧ Q (.str (a ++ b)) H
theorem op_addS : OpR X (binaryOp .Add) rAddS := by
  intro pins s σ H x y v u Q I rx ry h
  obtain ⟨a, b, rfl, rfl, hz, q⟩ := h
  obtain ⟨t, rfl⟩ := rx
  obtain ⟨t', rfl⟩ := ry
  exact PyProof.Rows.add_str (fun t' tk => ⟨.str (a ++ b), H, I.tok _, ⟨_, rfl⟩, q⟩) hz
/-- a text, once or not at all -/
noncomputable def rMulS : R2 := fun x y H Q => Ex2 fun (a : Str) (k : Int) => x = .str a ∧ y = .int k ∧ a.length ≤ sizeLine ∧ ((k = 0 ∧ Q (.str Str.empty) H) ∨ (k = 1 ∧ Q (.str a) H))
theorem op_mulS : OpR X (binaryOp .Mult) rMulS := by
  intro pins s σ H x y v u Q I rx ry h
  obtain ⟨a, k, rfl, rfl, hz, h⟩ := h
  obtain ⟨t, rfl⟩ := rx
  obtain ⟨t', rfl⟩ := ry
  rcases h with ⟨rfl, q⟩ | ⟨rfl, q⟩
  · exact P.mul_str_none (by decide) (by decide) ⟨.str Str.empty, H, I.redraw rfl rfl rfl, ⟨_, rfl⟩, q⟩
  · exact P.mul_str (by decide) (fun _ h => absurd h (by simp)) (fun _ h => absurd h (by simp)) (by
      rw [if_neg (by decide), if_pos (by rfl)]
      exact ⟨.str a, H, I, ⟨_, rfl⟩, q⟩)
noncomputable def rIntS : List V → Hp → VK → Prop := fun xs H Q => Ex2 fun (z : Str) (n : Int) => xs = [.str z] ∧ PySem.intText? z = some n ∧ z.length ≤ 640 ∧ Q (.int n) H
theorem call_intS : CallR X (.type "int") rIntS := by
  intro pins s σ H xs us Q I r h
  obtain ⟨z, n, rfl, hn, hz, q⟩ := h
  obtain ⟨u, rfl, rx⟩ := vals1 r
  obtain ⟨t, rfl⟩ := rx
  exact PySem.W.KIN.call_text hn hz ⟨.int n, H, I.redraw rfl rfl rfl, ⟨_, rfl⟩, q⟩
theorem isi_str : CallR X (.builtin "isinstance") (rIsi X.K "str") := call_isi (by rfl) (by intro T hT; simp only [List.mem_cons, List.not_mem_nil, or_false] at hT; rcases hT with rfl | rfl | rfl | rfl | rfl | rfl <;> (rw [isSubtype_type]; kernel_rfl))
/-! join, split -/
noncomputable def rJoin (K : PySem.W.Frag) : V → List V → Hp → VK → Prop := fun x xs H Q => Ex3 fun (z : Str) (a : Addr) (ys : List Str) => x = .str z ∧ xs = [.ref a] ∧ SqL K H a (ys.map V.str) ∧ JoinOk z ys = true ∧ Q (.str (Txt.join z ys)) H
theorem mt_join : MtR X "str.join" (rJoin X.K) := by
  intro pins s σ H x xs v us Q I rx r h
  obtain ⟨z, a, ys, rfl, rfl, ha, hok, q⟩ := h
  obtain ⟨t, rfl⟩ := rx
  obtain ⟨u, rfl, ru⟩ := vals1 r
  cases ru
  obtain ⟨its, r1, p1, z1⟩ := I.list ha
  obtain ⟨l, rfl, rfl⟩ := vals_strs r1
  exact SC.join p1.isList rfl hok fun t' k => ⟨.str _, H, I.redraw rfl rfl rfl, ⟨_, rfl⟩, q⟩
noncomputable def rSplit : V → List V → Hp → VK → Prop := fun x xs H Q => Ex2 fun (z y : Str) => x = .str z ∧ xs = [.str y] ∧ (y.length == 0) = false ∧ z.length + 2 ≤ sizeLine ∧ ∀ l, H l = none → Q (.ref l) (upd H l (.lst ((Txt.split z y).map V.str)))
theorem mt_split : MtR X "str.split" rSplit := by
  intro pins s σ H x xs v us Q I rx r h
  obtain ⟨z, y, rfl, rfl, hy, hz, q⟩ := h
  obtain ⟨t, rfl⟩ := rx
  obtain ⟨u, rfl, ru⟩ := vals1 r
  obtain ⟨t', rfl⟩ := ru
  have hn : (Builtin.Str.partsBetween z (Builtin.Str.occurrences z y 0 z.length (z.length + 1)) y.length).length ≤ sizeLine := by
    have e1 := StrLaws.occ_length_le z y 0 z.length (z.length + 1)
    rw [length_partsBetween]; lia
  have fin : ∀ (l : List (Str × Tok)) (k : Nat), l.map (·.1) = Txt.split z y → l.length ≤ sizeLine → EP X pins σ Q (.ref s.heap.objs.size) { s with heap := s.heap.push { cls := .type "list", data := .seq (strValues l).toArray }, toks := k } := fun l k e hl => by
    have I1 : Inv X pins σ (upd H s.heap.objs.size (.lst ((Txt.split z y).map V.str))) { s with heap := s.heap.push { cls := .type "list", data := .seq (strValues l).toArray }, toks := k } :=
      I.laid (fun b o e => Heap.get?_push_of_some _ e) (Nat.le_refl _) (show ObjOk X.prog X.w _ _ _ (.lst ((Txt.split z y).map V.str)) from ⟨by rw [← e, List.length_map, List.length_map]; exact hl, strValues l, 0, by rw [← e]; exact strs_vals l, Heap.get?_push_size _ rfl⟩)
    exact ⟨.ref s.heap.objs.size, _, I1, rfl, q _ (I.hok.fresh (Nat.le_refl _))⟩
  cases h1 : (decide (z.length < y.length) || decide (Builtin.Str.strKind z < Builtin.Str.strKind y))
  · cases hf : (Builtin.Str.occurrences z y 0 z.length (z.length + 1)).isEmpty
    · refine call_meets F.slot_str_split (typeIs_str _ _ _) F.entry_str_split (F.args_str_split_2 _ _) (meets_str_split_sep z y t t' h1 hy hf (by lia) hn) ?_
      show wants _ _ _ { s with toks := _, heap := s.heap.push { cls := .type "list", data := .seq (strsFrom s.toks (Builtin.Str.partsBetween z (Builtin.Str.occurrences z y 0 z.length (z.length + 1)) y.length)).toArray } }
      rw [strsFrom_eq]
      exact fin (numbered s.toks _) _ ((numbered_texts _ _).trans ((if_neg (ne_true_of_eq_false h1)).trans (if_neg (ne_true_of_eq_false hf))).symm) (by have := congrArg List.length (numbered_texts s.toks (Builtin.Str.partsBetween z (Builtin.Str.occurrences z y 0 z.length (z.length + 1)) y.length)); rw [List.length_map] at this; rw [this]; exact hn)
    · exact call_meets F.slot_str_split (typeIs_str _ _ _) F.entry_str_split (F.args_str_split_2 _ _) (meets_str_split_not_found z y t t' h1 hy hf)
        (fin [(z, t)] s.toks ((if_neg (ne_true_of_eq_false h1)).trans (if_pos hf)).symm (show 1 ≤ sizeLine by decide))
  · exact call_meets F.slot_str_split (typeIs_str _ _ _) F.entry_str_split (F.args_str_split_2 _ _) (meets_str_split_cannot_occur z y t t' h1)
      (fin [(z, t)] s.toks (if_pos h1).symm (show 1 ≤ sizeLine by decide))
end
end L2

end
section
set_option Elab.async false
set_option linter.all false
set_option maxRecDepth 100000
set_option maxHeartbeats 4000000
namespace L2
open PySem PySem.Spec PyProof.Rows
open Builtin Builtin.Str
theorem RelV_strT (z : Str) (t : Tok) : RelV (.str z) (.str z t) := ⟨t, rfl⟩
theorem joinOk_of {z : Str} {ys : List Str} {B : Nat} (h : ∀ y ∈ ys, y.length ≤ B) (hb : ys.length * (B + z.length) ≤ 2 ^ 20) : JoinOk z ys = true := by
  unfold JoinOk
  rw [StrLaws.joinTotal]
  have h1 : ∀ ys : List Str, (∀ y ∈ ys, y.length ≤ B) → (ys.map (·.length)).sum ≤ ys.length * B := fun ys => by
    induction ys with
    | nil => intro _; simp
    | cons a r ih =>
      intro h
      have h1 := h a List.mem_cons_self
      have h2 := ih fun y hy => h y (List.mem_cons_of_mem _ hy)
      rw [List.map_cons, List.sum_cons, List.length_cons, Nat.succ_mul]
      lia
  have h2 := h1 ys h
  rw [Nat.mul_add] at hb
  have h3 := sizeLine_eq
  unfold Builtin.Str.tooLong
  rw [decide_eq_false (by lia)]; rfl
/-! ### join of a list from behind -/
theorem nolen_lri : typeLookup (.type "list_reverseiterator") "__len__" = pure none := by rw [typeLookup_type, builtinLookup_eq_fast]; kernel_rfl
theorem hint_lri : typeLookup (.type "list_reverseiterator") "__length_hint__" = pure (some (.builtin "list_reverseiterator.__length_hint__")) := by rw [typeLookup_type, builtinLookup_eq_fast]; kernel_rfl
section
variable {prog : Program} {w : World} {A : Around} {E : Value → Shared → Prop} {s : Shared} {I : Addr} {fp wr : List Addr} {G : Array GenState → Array GenState → Prop} {n : Nat} {P : Nat → Value → Prop} {St : Nat → Shared → Prop}
theorem collect_lri {Q : List Value → Shared → Prop} (W : WalksS prog w A.in1 I fp wr G n P St) (hT : ∀ i s, St i s → s.TypeIs (.ref I) "list_reverseiterator") (hst : St 0 s) (hfp : ∀ b ∈ fp, b < s.heap.objs.size) (hI : I ∈ fp)
    (hQ : ∀ s' acc, Moved wr G s s' → ItemsOf P acc n → Q acc.toList s') (hn : n ≤ sizeLine) : wpAny (model prog w) A (collect (.ref I)) Q E s := by
  have hSf : s.heap.objs.size ∉ fp := fun hm => Nat.lt_irrefl _ (hfp _ hm)
  have hSI : s.heap.objs.size ≠ I := fun e => hSf (e ▸ hI)
  unfold collect
  refine wpAny_bind (wpAny_runValue (codeAny_builtin F.entry_proto_collect ?_))
  rw [Around.under_plainId F.plain_proto_collect _]
  show wpAny _ A.in1 (newList [] >>= fun l => again (.builtin "list.__iadd__" ⟨[l, .ref I], []⟩)) _ _ s
  refine wpAny_bind (wpAny_newObj_type ?_)
  refine wpAny_pure ⟨plainId_quiet F.plain_list_iadd _, codeAny_builtin F.entry_list_iadd ?_⟩
  rw [Around.under_plainId F.plain_list_iadd _]
  have hst₁ := W.frame 0 s (s.heap.push { cls := .type "list", data := .seq ([] : List Value).toArray }) s.toks hst (Nat.le_refl _) fun b _ o e => Heap.get?_push_of_some _ e
  have hS₁ : (s.heap.push { cls := .type "list", data := .seq ([] : List Value).toArray }).get? s.heap.objs.size = some { cls := .type "list", data := .seq ([] : List Value).toArray } := Heap.get?_push_size _ rfl
  have h1 : Builtin.List.listSameRef (.ref s.heap.objs.size) (.ref I) = false := by simp [Builtin.List.listSameRef, hSI]
  show wpAny _ A.in1 (Builtin.List.listExtendWith (.ref s.heap.objs.size) (.ref I) (.ref s.heap.objs.size)) _ _ _
  unfold Builtin.List.listExtendWith
  refine wpAny_bind (wpAny_typeOf (hT 0 _ hst₁) ?_)
  rw [if_neg (by rw [h1]; decide)]
  refine wpAny_bind (W.self 0 _ _ _ hst₁ ?_)
  refine wpAny_bind (wpAny_holding ?_)
  unfold Builtin.List.listLengthHint
  refine wpAny_bind (wpAny_specialOf (hT 0 _ hst₁) nolen_lri ?_)
  show wpAny _ A.in1 (specialOf (Value.ref I) (Str.ofString "__length_hint__") >>= _) _ _ _
  refine wpAny_bind (wpAny_specialOf (hT 0 _ hst₁) hint_lri ?_)
  (generalize hid : ("list_reverseiterator.__length_hint__" : String) = id0; (fail_if_success (clear hid id0)); wp_delta; rw [show splitId id0 = some ("list_reverseiterator", "__length_hint__") from by subst hid; decide +kernel]; subst hid)
  refine wpAny_bind (wpAny_isInstance (b := true) (hT 0 _ hst₁) (by rw [isSubtype_type]; kernel_rfl) ?_)
  refine wpAny_pure ?_
  rw [if_neg (by decide)]
  refine wpAny_pure ⟨plainId_quiet F.plain_extend_loop _, codeAny_extend_loopS W hn _ hSf _ n 0 _ _ _ rfl (Nat.zero_le _) hst₁ hS₁ (ItemsOf.nil P) fun s' acc' c' hm hS' hacc => ?_⟩
  show wpAny _ A (load s.heap.objs.size >>= _) _ _ s'
  refine wpAny_bind (wpAny_load hS' ?_)
  exact wpAny_pure (hQ s' acc' (Moved.drop_new (o := { cls := .type "list", data := .seq ([] : List Value).toArray }) (tk := s.toks) hm (Nat.le_refl _)) hacc)
/-- join of texts from behind -/
theorem join_lri {z : Str} {t : Tok} {a I : Addr} {l : List (Str × Tok)} {Q : Value → Shared → Prop} (hh : A.handled = none) (hl : s.heap.IsList a (strValues l).toArray) (ne : a ≠ I) (hit : s.heap.IsRevIter I a (((strValues l).toArray.size : Int) - 1))
    (hz : l.length ≤ sizeLine) (hok : JoinOk z ((l.map (·.1)).reverse) = true)
    (hq : ∀ s' t' k, Moved [I] (fun a b => b = a) s s' → Q (.str (Txt.join z ((l.map (·.1)).reverse)) t') { s' with toks := k }) :
    wpAny (model prog w) A (call (.builtin "str.join") [.str z t, .ref I]) Q E s := by
  have W := (Walks.listRev (prog := prog) (w := w) (A := A.in1.in1) (by simpa using hh) I a ne (strValues l).toArray).toS
  have hlen : (strValues l).toArray.size = l.length := by simp [strValues]
  have st0 : 0 ≤ (strValues l).toArray.size ∧ s.heap.IsRevIter I a (((strValues l).toArray.size : Int) - 1 - ((0 : Nat) : Int)) ∧ s.heap.IsList a (strValues l).toArray := ⟨Nat.zero_le _, by simpa using hit, hl⟩
  have hla : a < s.heap.objs.size := by obtain ⟨o, e, _⟩ := hl; exact Heap.lt_size e
  have hlI : I < s.heap.objs.size := by obtain ⟨o, e, _⟩ := hit; exact Heap.lt_size e
  refine wpAny_call (codeAny_call_builtin F.slot_str_join.plain F.entry_str_join (F.slot_str_join.check _ _ _ _ _ _ _ _ (typeIs_str _ _ _) (F.args_str_join_2 _ _) ?_))
  rw [join_tree_other]
  refine wpAny_bind (wpAny_typeOf hit.typeIs ?_)
  show wpAny _ A.in1 ((pyIter (.ref I)).tryCatch _ >>= fun it => collect it >>= fun items => joinTail z items) _ _ s
  refine wpAny_bind (wpAny_tryCatch (wpAny_pyIter_revIter hit ?_))
  refine wpAny_bind (collect_lri W (fun i s st => st.2.1.typeIs) st0 (fun b hb => by
    simp only [List.mem_cons, List.not_mem_nil, or_false] at hb
    rcases hb with rfl | rfl
    · exact hlI
    · exact hla) (by simp) (fun s' acc hm hacc => ?_) (by rw [hlen]; exact hz))
  have hacc2 : acc.toList = (strValues l).reverse := by
    refine List.ext_getElem? fun i => ?_
    rw [Array.getElem?_toList]
    by_cases c : i < l.length
    · obtain ⟨hs, hi⟩ := hacc
      have hi' : i < acc.size := by rw [hs, hlen]; exact c
      have := hi i _ (Array.getElem?_eq_getElem hi')
      rw [Array.getElem?_eq_getElem hi', ← this, List.getElem?_reverse (by simp [strValues]; exact c)]
      simp
    · rw [Array.getElem?_eq_none (by rw [hacc.1, hlen]; exact Nat.le_of_not_lt c), List.getElem?_eq_none (by simp [strValues]; exact Nat.le_of_not_lt c)]
  rw [hacc2]
  have er : (strValues l).reverse = strValues l.reverse := by simp [strValues]
  rw [er]
  have el : (l.map (·.1)).reverse = l.reverse.map (·.1) := by simp
  rw [el] at hok hq
  unfold JoinOk at hok
  rw [Bool.not_eq_true'] at hok
  have g : Gives (joinTail z (strValues l.reverse)) (joinMade z l.reverse) := by
    have g0 := gives_joinTail z l.reverse hok
    generalize l.reverse = r at *
    cases r with
    | nil => exact g0
    | cons p r => cases r with
      | nil => exact g0
      | cons q r' => exact g0
  exact g prog w A (wants Q E) s' (post_join l.reverse ⟨joinFit_length hok, fun t' k => hq s' t' k hm⟩)
end
section
variable {X : Cx} {o e : Expr} {to te : TE} {apos cpos p pos2 : Pos}
noncomputable def tJoinRev (K : PySem.W.Frag) (to te : TE) : TE := fun σ H Q => to σ H fun x H1 => ∃ z : Str, x = .str z ∧ te σ H1 fun y H2 => Ex2 fun (a : Addr) (ys : List Str) => y = .ref a ∧ SqL K H2 a (ys.map V.str) ∧ JoinOk z ys.reverse = true ∧ Q (.str (Txt.join z ys.reverse)) H2
theorem pe_joinRev (hc : X.calm = true) (hg : Gl X "reversed") (hm : X.mg "reversed" = none) (ho : PE X o to) (he : PE X e te)
    (hbase : attributeBase o "join" X.env (eval o X.env) = eval o X.env := by rfl)
    (hfew : ((backTo cpos (starEach [.Call (.Name "reversed" p) [e] [] pos2] X.env)).all (fun x => !x.1) && (backToKw cpos (keywordEach [] X.env)).all (fun x => x.1.isSome)
      && decide (([.Call (.Name "reversed" p) [e] [] pos2] : List Expr).length + ([] : List Keyword).length + (if ([] : List Keyword).isEmpty then 0 else 1) < 30)) = true := by rfl)
    (hline : (apos.endLine == cpos.line) = true := by rfl) (hs : starEach [.Call (.Name "reversed" p) [e] [] pos2] X.env = (false, eval (.Call (.Name "reversed" p) [e] [] pos2) X.env) :: [] := by rfl) (hs2 : starEach [e] X.env = [(false, eval e X.env)] := by rfl) :
    PE X (.Call (.Attribute o "join" apos) [.Call (.Name "reversed" p) [e] [] pos2] [] cpos) (tJoinRev X.K to te) := by
  intro pins s σ H Q I h
  refine wpAny_Call_method_late hbase hfew hline rfl (thn (ho pins s σ H _ I h) fun v s1 hq => ?_)
  obtain ⟨x, H1, I1, r1, z, rfl, q1⟩ := hq
  obtain ⟨t, rfl⟩ := r1
  refine ⟨"str", "str.join", F.plainAttrs_str, F.slot_str_join, F.type_str_join, typeIs_str _ _ _, (fun _ e => nomatch e), ?_⟩
  rw [hs]
  refine Calls.callWith_builtin rfl (Calls.evalArgs_plain ?_)
  refine Calls.spliced_cons ?_
  refine Call_ (ld_blt I1 hg hm (u := .type "reversed") boot_reversed (PyProof.Rows.callWith_type1 ?_ hs2 rfl) (by decide) (by decide))
  rw [hs2]
  show wpAny _ _ (spliced ((false, eval e X.env) :: [])) _ _ s1
  refine Calls.spliced_cons (thn (he pins s1 σ H1 _ I1 q1) fun u s2 hq => ?_)
  obtain ⟨y, H2, I2, r2, a, ys, rfl, ha, hok, q⟩ := hq
  cases r2
  refine Calls.spliced_nil ?_
  obtain ⟨its, rv, p2, hz⟩ := I2.list ha
  obtain ⟨l, rfl, rfl⟩ := vals_strs rv
  have hl2 : s2.heap.IsList a (strValues l).toArray := p2.isList
  refine call_reversed_list hl2 ?_
  refine Calls.spliced_nil ?_
  have hla : a < s2.heap.objs.size := by obtain ⟨o, e, _⟩ := hl2; exact Heap.lt_size e
  refine join_lri (s := { s2 with heap := s2.heap.push (revObj a (((strValues l).toArray.size : Int) - 1)) }) (I2.ok.hd hc) (hl2.push _) (Nat.ne_of_lt hla) ⟨_, Heap.get?_push_size _ rfl, rfl, rfl⟩ (by simpa using hz) hok fun s' t' k hm => ?_
  obtain ⟨h', g', d', tk', os'⟩ := s'
  obtain rfl : g' = s2.gens := hm.gens
  obtain rfl : d' = s2.drawn := hm.drawn
  obtain rfl : os' = s2.os := hm.os
  refine ⟨.str _, H2, I2.more (h' := h') (tk := k) fun b o e => hm.heap b o (fun h => ?_) (Heap.get?_push_of_some _ e), ⟨_, rfl⟩, q⟩
  have := Heap.lt_size e
  rw [List.mem_singleton.mp h] at this
  exact Nat.lt_irrefl _ this
end
/-! ### a tuple many times, () too -/
theorem tuple_mul_E (l : Addr) (n : Nat) (dd : Option Addr) (sl : Array (Option Value)) (x : Int) (u : Tok) (hx : x = 1 ∨ x = 9) :
    Meets (Builtin.«tuple.__mul__» ⟨[.ref l, .int x u], []⟩) (fun _ R s => s.heap.get? l = some { cls := .type "tuple", dict := dd, data := .seq #[] n, slots := sl } ∧ R (.ok (.ret (.ref l))) s) :=
  .of_wp fun prog w A R s h => by
    obtain ⟨hp, g, d, tk, os⟩ := s; obtain ⟨hl, h⟩ := h
    rcases hx with rfl | rfl
    · wp_walk
      exact ⟨_, rfl, h⟩
    · wp_walk
      exact ⟨_, rfl, h⟩
section
variable {X : Cx}
noncomputable def rRepT1 (K : PySem.W.Frag) : R2 := fun x y H Q => Ex3 fun (a : Addr) (k : Int) (xs : List V) => x = .ref a ∧ y = .int k ∧ SqT K H a xs ∧ (k = 1 ∨ k = 9) ∧ xs.length * k.toNat ≤ sizeLine ∧
  (∀ p, (List.replicate k.toNat xs).flatten = xs ∧ p = a → Q (.ref p) H) ∧ (∀ p, H p = none → Q (.ref p) (upd H p (.tup (List.replicate k.toNat xs).flatten)))
theorem op_repT1 : OpR X (binaryOp .Mult) (rRepT1 X.K) := by
  intro pins s σ H x y v u Q I rx ry h
  obtain ⟨a, k, xs, rfl, rfl, ha, h0, hz, q1, q2⟩ := h
  by_cases e : xs = []
  · subst e
    cases rx
    obtain ⟨t, rfl⟩ := ry
    obtain ⟨its, r, ⟨⟨cls, dd, data, sl⟩, ho, hc, n, hd⟩, z⟩ := I.tuple ha
    simp only at hc hd
    subst hc hd
    cases r
    refine wpAny_binaryOp_repeat_ref (T := "tuple") (U := "int") (by decide) ⟨_, ho, rfl⟩ (fun s' => typeIs_int s' k t) noFill_tuple_mul F.fills_int_mul F.slot_int_rmul repeat_tuple F.slot_int_index.lookup
      (call_meets F.slot_int_rmul (typeIs_int s k t) F.entry_int_rmul (F.args_int_rmul_2 _ _) (rmul_int_tuple k t a #[] n dd sl) ⟨ho, rfl, ⟨_, ho, rfl⟩, ?_⟩)
    exact call_meets PySem.F.slot_tuple_mul ⟨_, ho, rfl⟩ PySem.F.entry_tuple_mul (PySem.F.args_tuple_mul_2 _ _) (tuple_mul_E a n dd sl k t h0) ⟨ho, ⟨.ref a, H, I, rfl, q1 a ⟨by simp, rfl⟩⟩⟩
  · exact op_repT pins s σ H _ _ v u Q I rx ry ⟨a, k, xs, rfl, rfl, ha, e, by lia, by lia, hz, fun e1 => q1 a ⟨by subst e1; simp, rfl⟩, fun _ => q2⟩
end
end L2

end
section
set_option Elab.async false
set_option linter.all false
set_option maxRecDepth 100000
set_option maxHeartbeats 4000000
set_option exponentiation.threshold 1100
namespace L2
open PySem PyProof.Rows
/-! ### data that repr can tell -/
structure DkA (d : PyData) (W D : Nat) : Prop where
  sh : d.showable = true
  dp : d.depth ≤ D
  sl : d.leavesShort 200 = true
  we : d.weight ≤ W
theorem DkA.mono {d : PyData} {W D W' D' : Nat} (h : DkA d W D) (h1 : W ≤ W') (h2 : D ≤ D') : DkA d W' D' := ⟨h.sh, Nat.le_trans h.dp h2, h.sl, Nat.le_trans h.we h1⟩
theorem dk_all {W D : Nat} : ∀ {ds : List PyData}, (∀ d ∈ ds, DkA d W D) → PyData.showableAll ds = true ∧ PyData.depthAll ds ≤ D ∧ PyData.leavesShortAll 200 ds = true ∧ PyData.weightAll ds ≤ (W + 1) * ds.length
  | [], _ => ⟨rfl, Nat.zero_le _, rfl, Nat.zero_le _⟩
  | d :: ds, h => by
    have h1 := h d (List.mem_cons_self ..)
    obtain ⟨i1, i2, i3, i4⟩ := dk_all fun y hy => h y (List.mem_cons_of_mem _ hy)
    refine ⟨?_, ?_, ?_, ?_⟩
    · show (d.showable && PyData.showableAll ds) = true
      rw [h1.sh, i1]; rfl
    · show max d.depth (PyData.depthAll ds) ≤ D
      have := h1.dp
      lia
    · show (PyData.leavesShort 200 d && PyData.leavesShortAll 200 ds) = true
      rw [h1.sl, i3]; rfl
    · show d.weight + 1 + PyData.weightAll ds ≤ (W + 1) * (ds.length + 1)
      have := h1.we
      rw [Nat.mul_succ]
      lia
theorem dk_tup {W D : Nat} {ds : List PyData} (h : ∀ d ∈ ds, DkA d W D) : DkA (.tuple ds) ((W + 1) * ds.length) (D + 1) := by
  obtain ⟨i1, i2, i3, i4⟩ := dk_all h
  exact ⟨i1, Nat.succ_le_succ i2, i3, i4⟩
theorem dk_int {i : Int} (h : i.natAbs < 2 ^ 400) : DkA (.int i) 400 0 := by
  have lg : i.natAbs.log2 < 400 := by
    rcases Nat.eq_zero_or_pos i.natAbs with e | e
    · rw [e]; decide
    · exact (Nat.log2_lt (Nat.ne_of_gt e)).mpr h
  refine ⟨?_, Nat.le_refl _, ?_, ?_⟩
  · show decide (i.natAbs.log2 < 1920) = true
    exact decide_eq_true (by lia)
  · show decide ((PyData.shown (.int i)).length ≤ 200) = true
    refine decide_eq_true ?_
    have e := int_text_length_le10 (k := 199) (a := i) (by decide) (Nat.lt_trans h (by decide))
    show (Str.ofString (toString i)).length ≤ 200
    rw [PySem.ofString_length]; exact e
  · show (if i == 0 then 0 else i.natAbs.log2 + 1) ≤ 400
    split <;> lia
theorem DkA.len {d : PyData} (h : DkA d 40000 40) : d.shown.length ≤ sizeLine := by
  have := PyData.shown_le 200 (by decide) d h.sl
  have := h.we
  rw [sizeLine_eq]
  lia
/-! ### readings -/
theorem RdN.rdL {K : PySem.W.Frag} {H : Hp} : ∀ {n : Nat} {v : V} {d : PyData}, RdN K H n v d → RdL K H n v d
  | 0, _, _, h => h.elim
  | n + 1, v, d, h => by
    rcases h with ⟨i, h⟩ | ⟨a, xs, ds, e1, e2, ha, hl, hx⟩
    · exact .inr (.inr (.inl ⟨i, h⟩))
    · exact .inr (.inr (.inr (.inr (.inl ⟨a, xs, ds, e1, e2, ha, hl, fun i x e h1 h2 => (hx i x e h1 h2).rdL⟩))))
theorem noDictAll : ∀ {ds : List PyData}, (∀ d ∈ ds, d.hasDict = false) → PyData.hasDictAll ds = false
  | [], _ => rfl
  | d :: ds, h => by
    show (d.hasDict || PyData.hasDictAll ds) = false
    rw [h d (List.mem_cons_self ..), noDictAll fun y hy => h y (List.mem_cons_of_mem _ hy)]; rfl
theorem pair_of {α β : Type} {xs : List α} {ds : List β} (hl : xs.length = ds.length) {d : β} (h : d ∈ ds) : Ex2 fun (i : Nat) (x : α) => xs[i]? = some x ∧ ds[i]? = some d := by
  obtain ⟨i, hi, e⟩ := List.mem_iff_getElem.mp h
  exact ⟨i, xs[i], List.getElem?_eq_getElem (by lia), by rw [List.getElem?_eq_getElem hi, e]⟩
theorem RdN.nd {K : PySem.W.Frag} {H : Hp} : ∀ {n : Nat} {v : V} {d : PyData}, RdN K H n v d → d.hasDict = false
  | 0, _, _, h => h.elim
  | n + 1, v, d, h => by
    rcases h with ⟨i, _, rfl⟩ | ⟨a, xs, ds, _, rfl, _, hl, hx⟩
    · rfl
    · exact noDictAll fun e he => by
        obtain ⟨i, x, h1, h2⟩ := pair_of hl he
        exact (hx i x e h1 h2).nd
end L2

end
section
set_option Elab.async false
set_option linter.all false
set_option maxRecDepth 100000
set_option maxHeartbeats 4000000
namespace My
open PySem L2 Dg
noncomputable def top (i : Nat) : Stmt := PySem.Challenge.pw_roundwords_k70_written.main.body.getD i (.Pass ⟨0, 0, 0, 0⟩)
noncomputable abbrev s_show_number : Stmt := top 3
noncomputable abbrev s_show_numbers : Stmt := top 4
noncomputable abbrev s_show_field : Stmt := top 5
noncomputable abbrev s_show_wheel : Stmt := top 6
noncomputable abbrev s_is_whole : Stmt := top 11
noncomputable abbrev s_is_wholes : Stmt := top 12
noncomputable abbrev s_number_power : Stmt := top 13
noncomputable abbrev s_is_prime : Stmt := top 14
noncomputable abbrev s_many_things : Stmt := top 17
noncomputable abbrev s_plus : Stmt := top 18
noncomputable abbrev s_digit_times : Stmt := top 19
noncomputable abbrev s_lifted : Stmt := top 20
noncomputable abbrev s_times : Stmt := top 21
noncomputable abbrev s_times_itself : Stmt := top 22
noncomputable abbrev s_round_of : Stmt := top 23
noncomputable abbrev s_all_come_to_one : Stmt := top 24
noncomputable abbrev s_is_field : Stmt := top 25
noncomputable abbrev s_length : Stmt := top 27
noncomputable abbrev s_is_rising : Stmt := top 28
noncomputable abbrev s_is_wheel : Stmt := top 29
noncomputable abbrev s_is_figures : Stmt := top 34
noncomputable abbrev s_read_number : Stmt := top 35
noncomputable abbrev s_read_numbers : Stmt := top 36
noncomputable abbrev s_read_field : Stmt := top 37
noncomputable abbrev s_read_wheel : Stmt := top 38
noncomputable abbrev s__law_purse : Stmt := top 40
noncomputable abbrev s__law_pick : Stmt := top 41
noncomputable abbrev s__law_raised : Stmt := top 42
noncomputable abbrev s__law_digits : Stmt := top 43
noncomputable abbrev s__law_number : Stmt := top 44
noncomputable abbrev s__law_product : Stmt := top 45
noncomputable abbrev s__law_is_good : Stmt := top 46
noncomputable abbrev s__law_field : Stmt := top 47
noncomputable abbrev s__law_table : Stmt := top 48
noncomputable abbrev s__law_times : Stmt := top 49
noncomputable abbrev s__law_round : Stmt := top 50
noncomputable abbrev s__law_ring : Stmt := top 51
noncomputable abbrev s__law_wheel : Stmt := top 52
noncomputable abbrev s__law_points : Stmt := top 53
noncomputable abbrev s__law_some_number : Stmt := top 54
noncomputable abbrev s_law : Stmt := top 55
/-- the built-in names that the text uses stand unhidden -/
noncomputable def bnames : List Str := ["range", "len", "abs", "min", "max", "all", "any", "isinstance", "int", "bool", "tuple", "list", "zip", "enumerate", "repr", "dict", "reversed", "sorted", "sum", "set", "str"]
noncomputable abbrev Bl (mg : Str → Option Value) : Prop := ∀ x ∈ bnames, mg x = none
inductive sp_law (K : PySem.W.Frag) (vs : List V) (H : Hp) (Q : VK) (E : XK) : Prop
  | mk (a : Addr) (ns : List Int) (c1 : vs = [.ref a]) (c2 : SqL K H a (ns.map V.int)) (c3 : ∀ H', Q (.bl true) H') : sp_law K vs H Q E
noncomputable def DI (K : PySem.W.Frag) (f : Addr) (x : Str) (st : Stmt) : Prop := ∃ fd : FuncData, Fun K x x st f fd ∧ PySem.W.nsIn K mainGlobals x = some (some (.ref f))
noncomputable def GG (K : PySem.W.Frag) : Prop := ∀ {l : PySem.W.OpenLaw} {w : World} {h : Heap} {mg : Str → Option Value} {fa : Addr} (_ : K.In h) (_ : h.Ns mainGlobals mg) (_ : mg "law" = some (.ref fa)) {f1 : Addr} (q1 : DI K f1 "show_number" s_show_number) {f2 : Addr} (q2 : DI K f2 "show_numbers" s_show_numbers) {f3 : Addr} (q3 : DI K f3 "show_field" s_show_field) {f4 : Addr} (q4 : DI K f4 "show_wheel" s_show_wheel) {f5 : Addr} (q5 : DI K f5 "is_whole" s_is_whole) {f6 : Addr} (q6 : DI K f6 "is_wholes" s_is_wholes) {f7 : Addr} (q7 : DI K f7 "number_power" s_number_power) {f8 : Addr} (q8 : DI K f8 "is_prime" s_is_prime) {f9 : Addr} (q9 : DI K f9 "many_things" s_many_things) {f10 : Addr} (q10 : DI K f10 "plus" s_plus) {f11 : Addr} (q11 : DI K f11 "digit_times" s_digit_times) {f12 : Addr} (q12 : DI K f12 "lifted" s_lifted) {f13 : Addr} (q13 : DI K f13 "times" s_times) {f14 : Addr} (q14 : DI K f14 "times_itself" s_times_itself) {f15 : Addr} (q15 : DI K f15 "round_of" s_round_of) {f16 : Addr} (q16 : DI K f16 "all_come_to_one" s_all_come_to_one) {f17 : Addr} (q17 : DI K f17 "is_field" s_is_field) {f18 : Addr} (q18 : DI K f18 "length" s_length) {f19 : Addr} (q19 : DI K f19 "is_rising" s_is_rising) {f20 : Addr} (q20 : DI K f20 "is_wheel" s_is_wheel) {f21 : Addr} (q21 : DI K f21 "is_figures" s_is_figures) {f22 : Addr} (q22 : DI K f22 "read_number" s_read_number) {f23 : Addr} (q23 : DI K f23 "read_numbers" s_read_numbers) {f24 : Addr} (q24 : DI K f24 "read_field" s_read_field) {f25 : Addr} (q25 : DI K f25 "read_wheel" s_read_wheel) {f26 : Addr} (q26 : DI K f26 "_law_purse" s__law_purse) {f27 : Addr} (q27 : DI K f27 "_law_pick" s__law_pick) {f28 : Addr} (q28 : DI K f28 "_law_raised" s__law_raised) {f29 : Addr} (q29 : DI K f29 "_law_digits" s__law_digits) {f30 : Addr} (q30 : DI K f30 "_law_number" s__law_number) {f31 : Addr} (q31 : DI K f31 "_law_product" s__law_product) {f32 : Addr} (q32 : DI K f32 "_law_is_good" s__law_is_good) {f33 : Addr} (q33 : DI K f33 "_law_field" s__law_field) {f34 : Addr} (q34 : DI K f34 "_law_table" s__law_table) {f35 : Addr} (q35 : DI K f35 "_law_times" s__law_times) {f36 : Addr} (q36 : DI K f36 "_law_round" s__law_round) {f37 : Addr} (q37 : DI K f37 "_law_ring" s__law_ring) {f38 : Addr} (q38 : DI K f38 "_law_wheel" s__law_wheel) {f39 : Addr} (q39 : DI K f39 "_law_points" s__law_points) {f40 : Addr} (q40 : DI K f40 "_law_some_number" s__law_some_number) {f41 : Addr} (q41 : DI K f41 "law" s_law) {tk_GROUP : Tok} (kk_GROUP : PySem.W.nsIn K mainGlobals "GROUP" = some (some (.int 10000000000000000000000000000000000000000000000000000000000000000 tk_GROUP))) {tk_MOST_THINGS : Tok} (kk_MOST_THINGS : PySem.W.nsIn K mainGlobals "MOST_THINGS" = some (some (.int 64 tk_MOST_THINGS))) {tk_FIGURES : Tok} (kk_FIGURES : PySem.W.nsIn K mainGlobals "FIGURES" = some (some (.str (Str.ofString "0123456789") tk_FIGURES))) {tk_MOST : Tok} (kk_MOST : PySem.W.nsIn K mainGlobals "MOST" = some (some (.int 1000000000 tk_MOST))) {tk_MOST_FIGURES : Tok} (kk_MOST_FIGURES : PySem.W.nsIn K mainGlobals "MOST_FIGURES" = some (some (.int 10 tk_MOST_FIGURES))) (z1 : PySem.W.nsIn K mainGlobals "range" = some none) (z2 : PySem.W.nsIn K mainGlobals "len" = some none) (z3 : PySem.W.nsIn K mainGlobals "abs" = some none) (z4 : PySem.W.nsIn K mainGlobals "min" = some none) (z5 : PySem.W.nsIn K mainGlobals "max" = some none) (z6 : PySem.W.nsIn K mainGlobals "all" = some none) (z7 : PySem.W.nsIn K mainGlobals "any" = some none) (z8 : PySem.W.nsIn K mainGlobals "isinstance" = some none) (z9 : PySem.W.nsIn K mainGlobals "int" = some none) (z10 : PySem.W.nsIn K mainGlobals "bool" = some none) (z11 : PySem.W.nsIn K mainGlobals "tuple" = some none) (z12 : PySem.W.nsIn K mainGlobals "list" = some none) (z13 : PySem.W.nsIn K mainGlobals "zip" = some none) (z14 : PySem.W.nsIn K mainGlobals "enumerate" = some none) (z15 : PySem.W.nsIn K mainGlobals "repr" = some none) (z16 : PySem.W.nsIn K mainGlobals "dict" = some none) (z17 : PySem.W.nsIn K mainGlobals "reversed" = some none) (z18 : PySem.W.nsIn K mainGlobals "sorted" = some none) (z19 : PySem.W.nsIn K mainGlobals "sum" = some none) (z20 : PySem.W.nsIn K mainGlobals "set" = some none) (z21 : PySem.W.nsIn K mainGlobals "str" = some none), ∃ fd : FuncData, (∀ (s : Shared) (v : Value), BindsTo s fd ⟨[v], []⟩ [("_law_script", v)]) ∧ ∀ base : Heap, K.In base → base.Ns mainGlobals mg → FnOk l.prog w K mg base CX0 9 fa fd ["_law_script"] (sp_law K)
@[irreducible] noncomputable def K : PySem.W.Frag := Classical.epsilon fun K => ¬ GG K
theorem K_of (h : GG K) : ∀ k : PySem.W.Frag, GG k := by
  apply Classical.byContradiction
  intro q
  have ⟨k, hk⟩ := Classical.not_forall.mp q
  have e := Classical.epsilon_spec (p := fun K => ¬ GG K) ⟨k, hk⟩
  unfold K at h
  exact e h
/-- the tuple of a field -/
noncomputable def Fld (K : PySem.W.Frag) (H : Hp) (a : Addr) (p m t : Nat) : Prop := SqT K H a [.int p, .int m, .int t]
theorem Same.tup {K : PySem.W.Frag} {H H' : Hp} {a : Addr} {xs : List V} (e : Same H H') (h : SqT K H a xs) : SqT K H' a xs := by
  rcases h with (h | ⟨o, h⟩) | h
  · exact .inl (.inl (e _ _ h))
  · exact .inl (.inr ⟨o, e _ _ h⟩)
  · exact .inr h
/-- the whole number in slot i -/
noncomputable def mI (σ : St) (i : Nat) : Nat := match σ[i]? with
  | some (some (.int n)) => n.toNat
  | _ => 0
local macro_rules | `(tactic| walk_at "rd") => `(tactic| repeat (first | refine ⟨_, rfl, ?_⟩ | refine ⟨_, _, rfl, rfl, ?_⟩))
theorem tOr_of {t u : TT} {σ : St} {H : Hp} {Q : Bool → Hp → Prop} {b1 b2 : Bool} (h1 : ∀ Q : Bool → Hp → Prop, Q b1 H → t σ H Q) (h2 : ∀ Q : Bool → Hp → Prop, Q b2 H → u σ H Q) (q : Q (b1 || b2) H) : tOr t u σ H Q := by
  refine h1 _ ?_
  cases b1
  · exact h2 _ q
  · exact q
theorem ps_never {X : Cx} {st : Stmt} : PS X st (fun _ _ _ => False) := fun _ _ _ _ _ _ h => h.elim
section
variable {P : Program} {w : World} {mg : Str → Option Value} {base : Heap} {f : Addr} {fd : FuncData}
/-! plus -/
inductive sp_plus (K : PySem.W.Frag) (vs : List V) (H : Hp) (Q : VK) (E : XK) : Prop
  | mk (a : Addr) (p m t x y : Nat) (c1 : vs = [.ref a, .int x, .int y]) (c2 : Fld K H a p m t) (c3 : 2 ≤ p) (c4 : p ≤ 64) (c5 : ∀ r : Nat, (∀ i, dg p i r = (dg p i x + dg p i y) % p) → Q (.int r) H) : sp_plus K vs H Q E
theorem sc_plus : FnScope ["field", "one", "other", "p", "total", "unit"] ["field", "one", "other"] (defScope s_plus) := ⟨rfl, rfl, rfl, by decide +kernel, rfl, by decide +kernel, by decide +kernel⟩
theorem ok_plus (B : Bl mg) (F : Fun K "plus" "plus" s_plus f fd) : FnOk P w K mg base CX0 1 f fd ["field", "one", "other"] (sp_plus K) := by
  refine F.ok sc_plus (fun vs H Q E h => ?_) (fun cdv A outer s H vs Q E hr h => ?_)
  · obtain ⟨a, p, m, t, x, y, rfl, _⟩ := h; rfl
  obtain ⟨a, p, m, t, x, y, rfl, hF, hp, hp2, q⟩ := h
  refine ⟨_, ((3<|>sc_plus.nd<|>(ix_tup<<<(pv 0)<<<pe_int))<=<(4<|>sc_plus.nd<|>pe_int)<=<(5<|>sc_plus.nd<|>pe_int)<=<(@ps_while _ _ _ _ _ _ PassesOwn.never (@PW.pt _ _ _ (@pw_or _ _ _ _ _ _ _ (op_gt∪(pv 1)∪pe_int) (@pw_or1 _ _ _ _ (op_gt∪(pv 2)∪pe_int)))) ((@ps_aug _ _ 4 _ _ _ _ _ _ sc_plus.nd rfl (Or.inl rfl) (op_mul|||(op_mod|||(op_add|||(pv 1)|||(pv 2))|||(pv 3))|||(pv 5)) iop_add (by first | exact .inl rfl | exact .inr rfl | assumption))<=<(@ps_aug _ _ 1 _ _ _ _ _ _ sc_plus.nd rfl (Or.inl rfl) (pv 3) iop_fdv (by first | exact .inl rfl | exact .inr rfl | assumption))<=<(@ps_aug _ _ 2 _ _ _ _ _ _ sc_plus.nd rfl (Or.inl rfl) (pv 3) iop_fdv (by first | exact .inl rfl | exact .inr rfl | assumption))<=<(~~~(@ps_aug _ _ 5 _ _ _ _ _ _ sc_plus.nd rfl (Or.inl rfl) (pv 3) iop_mul (by first | exact .inl rfl | exact .inr rfl | assumption)))))<=<(~~~((pv 4)⁻¹))), ?_⟩
  try dsimp only [cxOf]
  refine ⟨_, rfl, a, _, _, _, rfl, rfl, hF, rfl, ?_⟩
  let I1 : St → Hp → Prop := fun σ H' => H' = H ∧ Ex4 fun (k o u tt : Nat) => An5 (σ = [some (.ref a), some (.int o), some (.int u), some (.int p), some (.int tt), some (.int ((p ^ k : Nat) : Int))]) (o = x / p ^ k) (u = y / p ^ k) (tt < p ^ k) (∀ i, i < k → dg p i tt = (dg p i x + dg p i y) % p)
  refine while_go I1
    (fun σ _ => mI σ 1 + mI σ 2) ⟨rfl, 0, x, y, 0, rfl, by simp, by simp, by simp, fun i hi => absurd hi (Nat.not_lt_zero _)⟩ ?_
  rintro σ H' ⟨rfl, k, o, u, tt, rfl, ho, hu, ht, hd⟩
  have pk : 0 < p ^ k := Nat.pow_pos (by lia)
  refine tOr_of (b1 := decide ((0 : Int) < o)) (b2 := decide ((0 : Int) < u)) (fun Q q => ⟨_, rfl, _, _, rfl, rfl, _, rfl, q⟩) (fun Q q => ⟨_, rfl, _, _, rfl, rfl, _, rfl, q⟩) ?_
  refine ite2 (fun c => ?_) (fun c => ?_)
  · simp only [Bool.or_eq_true, decide_eq_true_eq] at c
    refine ⟨fun σ' H'' => H'' = H' ∧ σ' = [some (.ref a), some (.int ((o / p : Nat) : Int)), some (.int ((u / p : Nat) : Int)), some (.int p), some (.int ((tt + (o + u) % p * p ^ k : Nat) : Int)), some (.int ((p ^ k * p : Nat) : Int))], ?_, ?_⟩
    · rintro σ' H'' ⟨rfl, rfl⟩
      have l1 : o / p ≤ o := Nat.div_le_self _ _
      have l2 : u / p ≤ u := Nat.div_le_self _ _
      have l3 : o / p < o ∨ u / p < u := by
        rcases c with c | c
        · exact .inl (Nat.div_lt_self (by lia) (by lia))
        · exact .inr (Nat.div_lt_self (by lia) (by lia))
      refine ⟨_, ?_, rfl, rfl, k + 1, o / p, u / p, tt + (o + u) % p * p ^ k, rfl, ?_, ?_, ?_, fun i hi => ?_⟩
      · show o / p + u / p < o + u; lia
      · rw [ho, Nat.pow_succ, Nat.div_div_eq_div_mul]
      · rw [hu, Nat.pow_succ, Nat.div_div_eq_div_mul]
      · exact put_lt ht (Nat.mod_lt _ (by lia))
      · rw [dg_put hp ht (Nat.mod_lt _ (by lia))]
        by_cases e : i = k
        · rw [if_pos e, ho, hu, e]; unfold dg; rw [Nat.add_mod]
        · rw [if_neg e]; exact hd i (by lia)
    · walk_at "rd"
      refine ⟨by show (0 : Int) < p; lia, ?_⟩
      walk_at "rd"
      have hm : (o + u) % p < p := Nat.mod_lt _ (by lia)
      refine ⟨.inl ⟨by show -(2 ^ 64 : Int) < (((o + u) % p : Nat) : Int); lia, by show (((o + u) % p : Nat) : Int) < 2 ^ 64; lia⟩, ?_⟩
      walk_at "rd"
      refine ⟨⟨by show (0 : Int) < p; lia, by show (p : Int) < 2 ^ 64; lia⟩, ?_⟩
      walk_at "rd"
      refine ⟨⟨by show (0 : Int) < p; lia, by show (p : Int) < 2 ^ 64; lia⟩, ?_⟩
      walk_at "rd"
      refine ⟨.inr ⟨by show -(2 ^ 64 : Int) < p; lia, by show (p : Int) < 2 ^ 64; lia⟩, ?_⟩
      exact ⟨rfl, rfl⟩
  · simp only [Bool.or_eq_true, decide_eq_true_eq, not_or] at c
    refine ⟨_, rfl, q tt fun i => ?_⟩
    by_cases e : i < k
    · exact hd i e
    · have hx : x < p ^ k := by
        rcases Nat.lt_or_ge x (p ^ k) with h | h
        · exact h
        · have := Nat.div_pos h pk; lia
      have hy : y < p ^ k := by
        rcases Nat.lt_or_ge y (p ^ k) with h | h
        · exact h
        · have := Nat.div_pos h pk; lia
      rw [dg_of_lt hp ht (by lia), dg_of_lt hp hx (by lia), dg_of_lt hp hy (by lia)]
      simp
/-! digit_times -/
inductive sp_digit_times (K : PySem.W.Frag) (vs : List V) (H : Hp) (Q : VK) (E : XK) : Prop
  | mk (a : Addr) (p m t d x : Nat) (c1 : vs = [.ref a, .int d, .int x]) (c2 : Fld K H a p m t) (c3 : 2 ≤ p) (c4 : p ≤ 64) (c5 : d < 2 ^ 64) (c6 : ∀ r : Nat, (∀ i, dg p i r = d * dg p i x % p) → Q (.int r) H) : sp_digit_times K vs H Q E
theorem sc_digit_times : FnScope ["field", "digit", "one", "p", "total", "unit"] ["field", "digit", "one"] (defScope s_digit_times) := ⟨rfl, rfl, rfl, by decide +kernel, rfl, by decide +kernel, by decide +kernel⟩
theorem ok_digit_times (B : Bl mg) (F : Fun K "digit_times" "digit_times" s_digit_times f fd) : FnOk P w K mg base CX0 1 f fd ["field", "digit", "one"] (sp_digit_times K) := by
  refine F.ok sc_digit_times (fun vs H Q E h => ?_) (fun cdv A outer s H vs Q E hr h => ?_)
  · obtain ⟨a, p, m, t, x, y, rfl, _⟩ := h; rfl
  obtain ⟨a, p, m, t, d, x, rfl, hF, hp, hp2, hd2, q⟩ := h
  refine ⟨_, ((3<|>sc_digit_times.nd<|>(ix_tup<<<(pv 0)<<<pe_int))<=<(4<|>sc_digit_times.nd<|>pe_int)<=<(5<|>sc_digit_times.nd<|>pe_int)<=<(@ps_while _ _ _ _ _ _ PassesOwn.never (op_gt∪(pv 2)∪pe_int) ((@ps_aug _ _ 4 _ _ _ _ _ _ sc_digit_times.nd rfl (Or.inl rfl) (op_mul|||(op_mod|||(op_mul|||(pv 1)|||(pv 2))|||(pv 3))|||(pv 5)) iop_add (by first | exact .inl rfl | exact .inr rfl | assumption))<=<(@ps_aug _ _ 2 _ _ _ _ _ _ sc_digit_times.nd rfl (Or.inl rfl) (pv 3) iop_fdv (by first | exact .inl rfl | exact .inr rfl | assumption))<=<(~~~(@ps_aug _ _ 5 _ _ _ _ _ _ sc_digit_times.nd rfl (Or.inl rfl) (pv 3) iop_mul (by first | exact .inl rfl | exact .inr rfl | assumption)))))<=<(~~~((pv 4)⁻¹))), ?_⟩
  try dsimp only [cxOf]
  refine ⟨_, rfl, a, _, _, _, rfl, rfl, hF, rfl, ?_⟩
  let I2 : St → Hp → Prop := fun σ H' => H' = H ∧ Ex3 fun (k o tt : Nat) => An4 (σ = [some (.ref a), some (.int d), some (.int o), some (.int p), some (.int tt), some (.int ((p ^ k : Nat) : Int))]) (o = x / p ^ k) (tt < p ^ k) (∀ i, i < k → dg p i tt = d * dg p i x % p)
  refine while_go I2
    (fun σ _ => mI σ 2) ⟨rfl, 0, x, 0, rfl, by simp, by simp, fun i hi => absurd hi (Nat.not_lt_zero _)⟩ ?_
  rintro σ H' ⟨rfl, k, o, tt, rfl, ho, ht, hd⟩
  have pk : 0 < p ^ k := Nat.pow_pos (by lia)
  walk_at "rd"
  refine ite2 (fun c => ?_) (fun c => ?_)
  · have c' : 0 < o := by have := of_decide_eq_true c; lia
    refine ⟨fun σ' H'' => H'' = H' ∧ σ' = [some (.ref a), some (.int d), some (.int ((o / p : Nat) : Int)), some (.int p), some (.int ((tt + d * o % p * p ^ k : Nat) : Int)), some (.int ((p ^ k * p : Nat) : Int))], ?_, ?_⟩
    · rintro σ' H'' ⟨rfl, rfl⟩
      refine ⟨_, ?_, rfl, rfl, k + 1, o / p, tt + d * o % p * p ^ k, rfl, ?_, ?_, fun i hi => ?_⟩
      · show o / p < o; exact Nat.div_lt_self c' (by lia)
      · rw [ho, Nat.pow_succ, Nat.div_div_eq_div_mul]
      · exact put_lt ht (Nat.mod_lt _ (by lia))
      · rw [dg_put hp ht (Nat.mod_lt _ (by lia))]
        by_cases e : i = k
        · rw [if_pos e, ho, e]; unfold dg; rw [Nat.mul_mod_mod]
        · rw [if_neg e]; exact hd i (by lia)
    · have hm : d * o % p < p := Nat.mod_lt _ (by lia)
      walk_at "rd"
      refine ⟨.inl ⟨by show -(2 ^ 64 : Int) < (d : Int); lia, by show (d : Int) < 2 ^ 64; lia⟩, ?_⟩
      walk_at "rd"
      refine ⟨by show (0 : Int) < p; lia, ?_⟩
      walk_at "rd"
      refine ⟨.inl ⟨by show -(2 ^ 64 : Int) < ((d * o % p : Nat) : Int); lia, by show ((d * o % p : Nat) : Int) < 2 ^ 64; lia⟩, ?_⟩
      walk_at "rd"
      refine ⟨⟨by show (0 : Int) < p; lia, by show (p : Int) < 2 ^ 64; lia⟩, ?_⟩
      walk_at "rd"
      refine ⟨.inr ⟨by show -(2 ^ 64 : Int) < p; lia, by show (p : Int) < 2 ^ 64; lia⟩, ?_⟩
      exact ⟨rfl, rfl⟩
  · have c' : o = 0 := by have := of_decide_eq_false (Bool.eq_false_iff.mpr c); lia
    refine ⟨_, rfl, q tt fun i => ?_⟩
    by_cases e : i < k
    · exact hd i e
    · have hx : x < p ^ k := by
        rcases Nat.lt_or_ge x (p ^ k) with h | h
        · exact h
        · have := Nat.div_pos h pk; lia
      rw [dg_of_lt hp ht (by lia), dg_of_lt hp hx (by lia)]
      simp
/-! number_power -/
inductive sp_number_power (vs : List V) (H : Hp) (Q : VK) (E : XK) : Prop
  | mk (b k : Nat) (c1 : vs = [.int b, .int k]) (c2 : b ≤ 64) (c3 : k ≤ 1000) (c4 : Q (.int ((b ^ k : Nat) : Int)) H) : sp_number_power vs H Q E
theorem sc_number_power : FnScope ["base", "many", "product", "step"] ["base", "many"] (defScope s_number_power) := ⟨rfl, rfl, rfl, by decide +kernel, rfl, by decide +kernel, by decide +kernel⟩
theorem ok_number_power (B : Bl mg) (F : Fun K "number_power" "number_power" s_number_power f fd) : FnOk P w K mg base CX0 1 f fd ["base", "many"] sp_number_power := by
  refine F.ok sc_number_power (fun vs H Q E h => ?_) (fun cdv A outer s H vs Q E hr h => ?_)
  · obtain ⟨b, k, rfl, _⟩ := h; rfl
  obtain ⟨b, k, rfl, hb, hk, q⟩ := h
  refine ⟨_, ((2<|>sc_number_power.nd<|>pe_int)<=<((↑((pv 1)>=>pa_nil))<&>((3&&&sc_number_power.nd),(~~~(@ps_aug _ _ 2 _ _ _ _ _ _ sc_number_power.nd rfl (Or.inl rfl) (pv 0) iop_mul (by first | exact .inl rfl | exact .inr rfl | assumption)))))<=<(~~~((pv 2)⁻¹))), ?_⟩
  try dsimp only [cxOf]
  refine ⟨_, rfl, k, rfl, by lia, by lia, for_range (n := k) (fun i σ H' => H' = H ∧ ∃ s, σ = [some (.int b), some (.int k), some (.int ((b ^ i : Nat) : Int)), s]) ⟨rfl, none, rfl⟩ ?_ ?_⟩
  · rintro i σ H' hi ⟨rfl, s, rfl⟩
    walk_at "rd"
    refine ⟨.inr ⟨by lia, by lia⟩, rfl, some (.int (0 + (i : Int))), ?_⟩
    rw [Nat.pow_succ]; rfl
  · rintro σ H' ⟨rfl, s, rfl⟩
    exact ⟨_, rfl, q⟩
/-! minus -/
theorem ints_eq {i j : Int} (h : i = j) : V.int i = V.int j := congrArg V.int h
/-! lifted -/
inductive sp_lifted (K : PySem.W.Frag) (vs : List V) (H : Hp) (Q : VK) (E : XK) : Prop
  | mk (a : Addr) (p m t x : Nat) (c1 : vs = [.ref a, .int x]) (c2 : Fld K H a p m t) (c3 : 2 ≤ p) (c4 : 1 ≤ m) (c5 : p ^ m ≤ 64) (c6 : t < p ^ m) (c7 : x < p ^ m) (c8 : ∀ r : Nat, (∀ i, dg p i r = liftF m (fun i => dg p i t) (fun i => dg p i x) i % p) → Q (.int r) H) : sp_lifted K vs H Q E
theorem p_le {p m : Nat} (hp : 2 ≤ p) (hm : 1 ≤ m) (h : p ^ m ≤ 64) : p ≤ 64 := Nat.le_trans (by simpa using Nat.pow_le_pow_right (n := p) (by lia) hm) h
theorem m_le {p m : Nat} (hp : 2 ≤ p) (h : p ^ m ≤ 64) : m ≤ 6 := by
  rcases Nat.lt_or_ge 6 m with h1 | h1
  · have := Nat.pow_le_pow_left hp m
    have := Nat.pow_le_pow_right (n := 2) (by lia) h1
    lia
  · exact h1
theorem sc_lifted : FnScope ["field", "one", "p", "m", "top", "last_unit", "moved"] ["field", "one"] (defScope s_lifted) := ⟨rfl, rfl, rfl, by decide +kernel, rfl, by decide +kernel, by decide +kernel⟩
theorem ok_lifted (B : Bl mg) (h_plus : Has P w K mg base 1 "plus" ["field", "one", "other"] (sp_plus K)) (h_digit_times : Has P w K mg base 1 "digit_times" ["field", "digit", "one"] (sp_digit_times K)) (h_number_power : Has P w K mg base 1 "number_power" ["base", "many"] sp_number_power) (F : Fun K "lifted" "lifted" s_lifted f fd) : FnOk P w K mg base CX0 2 f fd ["field", "one"] (sp_lifted K) := by
  refine F.ok sc_lifted (fun vs H Q E h => ?_) (fun cdv A outer s H vs Q E hr h => ?_)
  · obtain ⟨a, p, m, t, x, rfl, _⟩ := h; rfl
  obtain ⟨a, p, m, t, x, rfl, hF, hp, hm, hpm, ht, hx, q⟩ := h
  have hp2 := p_le hp hm hpm
  have hm6 := m_le hp hpm
  refine ⟨_, (((pv 0)≈((2&&&sc_lifted.nd)∩((3&&&sc_lifted.nd)∩((4&&&sc_lifted.nd)∩pgs_nil))))<=<(5<|>sc_lifted.nd<|>(h_number_power<$>((pv 2)>=>(op_sub|||(pv 3)|||pe_int)>=>pa_nil)))<=<(6<|>sc_lifted.nd<|>(op_mul|||(op_mod|||(pv 1)|||(pv 5))|||(pv 2)))<=<(~~~((h_plus<$>((pv 0)>=>(pv 6)>=>(h_digit_times<$>((pv 0)>=>(op_fdv|||(pv 1)|||(pv 5))>=>(pv 4)>=>pa_nil))>=>pa_nil))⁻¹))), ?_⟩
  try dsimp only [cxOf]
  refine ⟨_, rfl, a, _, rfl, hF, rfl, _, _, rfl, _, _, rfl, _, _, rfl, rfl, ?_⟩
  walk_at "rd"
  refine ⟨p, m - 1, by (try dsimp only); rw [show ((m : Nat) : Int) - 1 = ((m - 1 : Nat) : Int) by lia]; rfl, hp2, by lia, ?_⟩
  have hl : p ^ (m - 1) ≤ 64 := Nat.le_trans (Nat.pow_le_pow_right (by lia) (by lia)) hpm
  have hl0 : 0 < p ^ (m - 1) := Nat.pow_pos (by lia)
  walk_at "rd"
  refine ⟨by show (0 : Int) < ((p ^ (m - 1) : Nat) : Int); lia, ?_⟩
  walk_at "rd"
  refine ⟨.inr ⟨by show -(2 ^ 64 : Int) < (p : Int); lia, by show (p : Int) < 2 ^ 64; lia⟩, ?_⟩
  walk_at "rd"
  refine ⟨⟨by show (0 : Int) < ((p ^ (m - 1) : Nat) : Int); lia, by show ((p ^ (m - 1) : Nat) : Int) < 2 ^ 64; lia⟩, ?_⟩
  walk_at "rd"
  have hdl := dg_last hp hm hx
  have hdl2 := dg_lt hp (m - 1) x
  refine ⟨a, p, m, t, x / p ^ (m - 1), t, rfl, hF, hp, hp2, by lia, fun r1 h1 => ?_⟩
  refine ⟨a, p, m, t, x % p ^ (m - 1) * p, r1, rfl, hF, hp, hp2, fun r h2 => q r fun i => ?_⟩
  rw [h2 i, h1 i, dg_up hp, dg_low hp, hdl, Nat.add_mod_mod]
  unfold liftF shiftF
  by_cases hi : i < m
  · rw [if_pos hi]
    by_cases h0 : i = 0
    · rw [if_pos h0, if_pos h0]
    · rw [if_neg h0, if_neg h0, if_pos (by lia)]
  · rw [if_neg hi, if_neg (by lia), if_neg (by lia), dg_of_lt hp ht (by lia)]
    simp
/-! times -/
inductive sp_times (K : PySem.W.Frag) (vs : List V) (H : Hp) (Q : VK) (E : XK) : Prop
  | mk (a : Addr) (p m t x y : Nat) (c1 : vs = [.ref a, .int x, .int y]) (c2 : Fld K H a p m t) (c3 : 2 ≤ p) (c4 : 1 ≤ m) (c5 : p ^ m ≤ 64) (c6 : t < p ^ m) (c7 : x < p ^ m) (c8 : y < p ^ m) (c9 : ∀ r : Nat, r < p ^ m → (∀ i, i < m → dg p i r = tn m (fun i => dg p i t) m (fun i => dg p i x) (fun i => dg p i y) i % p) → Q (.int r) H) : sp_times K vs H Q E
theorem sc_times : FnScope ["field", "one", "other", "p", "total"] ["field", "one", "other"] (defScope s_times) := ⟨rfl, rfl, rfl, by decide +kernel, rfl, by decide +kernel, by decide +kernel⟩
theorem ok_times (B : Bl mg) (h_plus : Has P w K mg base 1 "plus" ["field", "one", "other"] (sp_plus K)) (h_digit_times : Has P w K mg base 1 "digit_times" ["field", "digit", "one"] (sp_digit_times K)) (h_lifted : Has P w K mg base 2 "lifted" ["field", "one"] (sp_lifted K)) (F : Fun K "times" "times" s_times f fd) : FnOk P w K mg base CX0 3 f fd ["field", "one", "other"] (sp_times K) := by
  refine F.ok sc_times (fun vs H Q E h => ?_) (fun cdv A outer s H vs Q E hr h => ?_)
  · obtain ⟨a, p, m, t, x, y, rfl, _⟩ := h; rfl
  obtain ⟨a, p, m, t, x, y, rfl, hF, hp, hm, hpm, ht, hx, hy, q⟩ := h
  have hp2 := p_le hp hm hpm
  refine ⟨_, ((3<|>sc_times.nd<|>(ix_tup<<<(pv 0)<<<pe_int))<=<(4<|>sc_times.nd<|>pe_int)<=<(@ps_while _ _ _ _ _ _ PassesOwn.never (op_gt∪(pv 1)∪pe_int) ((4<|>sc_times.nd<|>(h_plus<$>((pv 0)>=>(pv 4)>=>(h_digit_times<$>((pv 0)>=>(op_mod|||(pv 1)|||(pv 3))>=>(pv 2)>=>pa_nil))>=>pa_nil)))<=<(@ps_aug _ _ 1 _ _ _ _ _ _ sc_times.nd rfl (Or.inl rfl) (pv 3) iop_fdv (by first | exact .inl rfl | exact .inr rfl | assumption))<=<(~~~((op_gt∪(pv 1)∪pe_int)*>((~~~(2<|>sc_times.nd<|>(h_lifted<$>((pv 0)>=>(pv 2)>=>pa_nil)))),pss_nil)))))<=<(~~~((pv 4)⁻¹))), ?_⟩
  try dsimp only [cxOf]
  refine ⟨_, rfl, a, _, _, _, rfl, rfl, hF, rfl, ?_⟩
  let I3 : St → Hp → Prop := fun σ H' => H' = H ∧ Ex4 fun (k o u tt : Nat) => An5 (σ = [some (.ref a), some (.int o), some (.int u), some (.int p), some (.int tt)]) (o < p ^ k) (u < p ^ m) (tt < p ^ m) (∀ i, i < m → (dg p i tt + tn m (fun i => dg p i t) k (fun i => dg p i o) (fun i => dg p i u) i) % p = tn m (fun i => dg p i t) m (fun i => dg p i x) (fun i => dg p i y) i % p)
  refine while_go I3
    (fun σ _ => mI σ 1) ⟨rfl, m, x, y, 0, rfl, hx, hy, Nat.pow_pos (by lia), fun i _ => by rw [dg_nil, Nat.zero_add]⟩ ?_
  rintro σ H' ⟨rfl, k, o, u, tt, rfl, ho, hu, htt, hd⟩
  walk_at "rd"
  refine ite2 (fun c => ?_) (fun c => ?_)
  · have c' : 0 < o := by have := of_decide_eq_true c; lia
    have hk : k ≠ 0 := fun e => by rw [e] at ho; simp at ho; lia
    obtain ⟨k, rfl⟩ : ∃ j, k = j + 1 := ⟨k - 1, by lia⟩
    have om : o % p < p := Nat.mod_lt _ (by lia)
    have ho2 : o / p < p ^ k := Nat.div_lt_of_lt_mul (by rw [Nat.pow_succ, Nat.mul_comm] at ho; exact ho)
    have ho3 : o / p < o := Nat.div_lt_self c' (by lia)
    refine ⟨fun σ' H'' => H'' = H' ∧ Ex3 fun (o' u' t' : Nat) => o' = o / p ∧ σ' = [some (.ref a), some (.int o'), some (.int u'), some (.int p), some (.int t')] ∧ u' < p ^ m ∧ t' < p ^ m ∧
      ∀ i, i < m → (dg p i t' + tn m (fun i => dg p i t) k (fun i => dg p i o') (fun i => dg p i u') i) % p = tn m (fun i => dg p i t) m (fun i => dg p i x) (fun i => dg p i y) i % p, ?_, ?_⟩
    · rintro σ' H'' ⟨rfl, o', u', t', rfl, rfl, b1, b2, b3⟩
      exact ⟨_, by show o / p < o; exact ho3, rfl, rfl, k, o / p, u', t', rfl, ho2, b1, b2, b3⟩
    walk_at "rd"
    refine ⟨by show (0 : Int) < p; lia, ?_⟩
    walk_at "rd"
    refine ⟨a, p, m, t, o % p, u, rfl, hF, hp, hp2, by lia, fun r1 h1 => ?_⟩
    refine ⟨a, p, m, t, tt, r1, rfl, hF, hp, hp2, fun r2 h2 => ?_⟩
    have hr2 : r2 < p ^ m := lt_of_zero hp fun i hi => by rw [h2 i, h1 i, dg_of_lt hp htt hi, dg_of_lt hp hu hi]; simp
    have hd2 : ∀ i, i < m → (dg p i r2 + tn m (fun i => dg p i t) k (fun i => dg p i (o / p)) (liftF m (fun i => dg p i t) fun i => dg p i u) i) % p = tn m (fun i => dg p i t) m (fun i => dg p i x) (fun i => dg p i y) i % p := fun i hi => by
      rw [← hd i hi, h2 i, h1 i]
      show _ = (dg p i tt + (dg p 0 o * dg p i u + tn m (fun i => dg p i t) k (fun j => dg p (j + 1) o) (liftF m (fun i => dg p i t) fun i => dg p i u) i)) % p
      rw [dg_fun_succ, dg_zero, ← Nat.add_assoc]
      refine add_mod2 ?_ rfl
      rw [Nat.mod_mod]
      exact add_mod2 rfl (Nat.mod_mod _ _)
    walk_at "rd"
    refine ⟨⟨by show (0 : Int) < p; lia, by show (p : Int) < 2 ^ 64; lia⟩, ?_⟩
    walk_at "rd"
    refine ite2 (fun c2 => ?_) (fun c2 => ?_)
    · walk_at "rd"
      refine ⟨a, p, m, t, u, rfl, hF, hp, hm, hpm, ht, hu, fun r3 h3 => ?_⟩
      have hr3 : r3 < p ^ m := lt_of_zero hp fun i hi => by rw [h3 i]; unfold liftF; rw [if_neg (by lia)]; simp
      refine ⟨rfl, o / p, r3, r2, rfl, rfl, hr3, hr2, fun i hi => ?_⟩
      rw [← hd2 i hi]
      exact add_mod2 rfl (tn_congr hm k _ _ _ (fun j _ => by rw [h3 j, Nat.mod_mod]) i hi)
    · have c3 : o / p = 0 := by have := of_decide_eq_false (Bool.eq_false_iff.mpr c2); exact Nat.le_zero.mp (Int.ofNat_le.mp (show ((o / p : Nat) : Int) ≤ ((0 : Nat) : Int) from Int.not_lt.mp this))
      refine ⟨rfl, o / p, u, r2, rfl, rfl, hu, hr2, fun i hi => ?_⟩
      rw [← hd2 i hi, c3, tn_zero k _ _ i (fun j => dg_nil p j), tn_zero k _ _ i (fun j => dg_nil p j)]
  · have c' : o = 0 := by have := of_decide_eq_false (Bool.eq_false_iff.mpr c); lia
    refine ⟨_, rfl, q tt htt fun i hi => ?_⟩
    rw [← hd i hi, c', tn_zero k _ _ i (fun j => dg_nil p j), Nat.add_zero, dg_mod]
end
end My

end
section
set_option Elab.async false
set_option linter.all false
set_option maxRecDepth 100000
set_option maxHeartbeats 4000000
namespace My
open PySem L2 Dg
local macro_rules | `(tactic| walk_at "rd") => `(tactic| repeat (first | refine ⟨_, rfl, ?_⟩ | refine ⟨_, _, rfl, rfl, ?_⟩))
/-! heaps -/
theorem same_new {H : Hp} {p : Addr} (h : H p = none) (o : HO) : Same H (upd H p o) := fun b u q => by rw [upd_ne (ne_of_none q h)]; exact q
noncomputable abbrev Vn (n : Nat) : V := .int (n : Int)
/-- the purse at a, its digits at g -/
noncomputable def Pu (H : Hp) (a g : Addr) : Prop := Ex3 fun (ns : List Nat) (s t : Nat) => H a = some (.lst [.ref g, Vn s, Vn t]) ∧ H g = some (.lst (ns.map Vn))
theorem Pu.ne {H : Hp} {a g : Addr} (h : Pu H a g) : a ≠ g := by
  obtain ⟨ns, s, t, h1, h2⟩ := h
  intro e; subst e; rw [h1] at h2
  have h3 := HO.lst.inj (Option.some.inj h2)
  cases ns with
  | nil => cases h3
  | cons n ns => cases h3
noncomputable def SameX (a g : Addr) (H H' : Hp) : Prop := ∀ b o, b ≠ a → b ≠ g → H b = some o → H' b = some o
theorem SameX.refl {a g : Addr} {H : Hp} : SameX a g H H := fun _ _ _ _ e => e
theorem SameX.trans {a g : Addr} {H H1 H2 : Hp} (h1 : SameX a g H H1) (h2 : SameX a g H1 H2) : SameX a g H H2 := fun b o n1 n2 e => h2 b o n1 n2 (h1 b o n1 n2 e)
theorem Same.x {a g : Addr} {H H1 : Hp} (h : Same H H1) : SameX a g H H1 := fun b o _ _ e => h b o e
theorem Pu.same {H H' : Hp} {a g : Addr} (h : Pu H a g) (s : Same H H') : Pu H' a g := by
  obtain ⟨ns, x, t, h1, h2⟩ := h
  exact ⟨ns, x, t, s _ _ h1, s _ _ h2⟩
theorem szl (n : Nat) (h : n ≤ 100000 := by lia) : n ≤ sizeLine := by rw [sizeLine_eq]; lia
section
variable {P : Program} {w : World} {mg : Str → Option Value} {base : Heap} {f : Addr} {fd : FuncData}
/-! raised -/
theorem sc__law_raised : FnScope ["_law_one", "_law_many", "_law_found", "_law_turn"] ["_law_one", "_law_many"] (defScope s__law_raised) := ⟨rfl, rfl, rfl, by decide +kernel, rfl, by decide +kernel, by decide +kernel⟩
theorem ok_raised (B : Bl mg) (F : Fun K "_law_raised" "_law_raised" s__law_raised f fd) : FnOk P w K mg base CX0 1 f fd ["_law_one", "_law_many"] sp_number_power := by
  refine F.ok sc__law_raised (fun vs H Q E h => ?_) (fun cdv A outer s H vs Q E hr h => ?_)
  · obtain ⟨b, k, rfl, _⟩ := h; rfl
  obtain ⟨b, k, rfl, hb, hk, q⟩ := h
  refine ⟨_, ((2<|>sc__law_raised.nd<|>pe_int)<=<((↑((pv 1)>=>pa_nil))<&>((3&&&sc__law_raised.nd),(~~~(2<|>sc__law_raised.nd<|>(op_mul|||(pv 2)|||(pv 0))))))<=<(~~~((pv 2)⁻¹))), ?_⟩
  try dsimp only [cxOf]
  refine ⟨_, rfl, k, rfl, by lia, by lia, for_range (n := k) (fun i σ H' => H' = H ∧ ∃ s, σ = [some (.int b), some (.int k), some (.int ((b ^ i : Nat) : Int)), s]) ⟨rfl, none, rfl⟩ ?_ ?_⟩
  · rintro i σ H' hi ⟨rfl, s, rfl⟩
    walk_at "rd"
    refine ⟨.inr ⟨by lia, by lia⟩, rfl, some (.int (0 + (i : Int))), ?_⟩
    rw [Nat.pow_succ]; rfl
  · rintro σ H' ⟨rfl, s, rfl⟩
    exact ⟨_, rfl, q⟩
/-! digits -/
noncomputable def digL (p m x : Nat) : List V := (List.range m).map fun i => Vn (dg p i x)
theorem digL_succ (p m x : Nat) : digL p (m + 1) x = digL p m x ++ [Vn (dg p m x)] := by unfold digL; rw [List.range_succ, List.map_append]; rfl
theorem digL_len (p m x : Nat) : (digL p m x).length = m := by simp [digL]
inductive sp_digits (K : PySem.W.Frag) (vs : List V) (H : Hp) (Q : VK) (E : XK) : Prop
  | mk (a : Addr) (p m t x : Nat) (c1 : vs = [.ref a, .int x]) (c2 : Fld K H a p m t) (c3 : 2 ≤ p) (c4 : p ≤ 64) (c5 : m ≤ 64) (c6 : ∀ r H', H r = none → Same H H' → H' r = some (.lst (digL p m x)) → Q (.ref r) H') : sp_digits K vs H Q E
theorem sc__law_digits : FnScope ["_law_field_here", "_law_thing", "_law_found", "_law_k"] ["_law_field_here", "_law_thing"] (defScope s__law_digits) := ⟨rfl, rfl, rfl, by decide +kernel, rfl, by decide +kernel, by decide +kernel⟩
theorem ok_digits (B : Bl mg) (F : Fun K "_law_digits" "_law_digits" s__law_digits f fd) : FnOk P w K mg base CX0 1 f fd ["_law_field_here", "_law_thing"] (sp_digits K) := by
  refine F.ok sc__law_digits (fun vs H Q E h => ?_) (fun cdv A outer s H vs Q E hr h => ?_)
  · obtain ⟨a, p, m, t, x, rfl, _⟩ := h; rfl
  obtain ⟨a, p, m, t, x, rfl, hF, hp, hp2, hm, q⟩ := h
  refine ⟨_, ((2<|>sc__law_digits.nd<|>(@pe_lst _ _ _ _ pa_nil))<=<((↑((ix_tup<<<(pv 0)<<<pe_int)>=>pa_nil))<&>((3&&&sc__law_digits.nd),((@ps_expr _ _ _ _ (@pe_bm _ _ _ _ _ _ _ _ _ _ _ _ PySem.F.plainAttrs_list PySem.F.slot_list_append PySem.F.type_list_append mt_append (pv 2) ((op_mod|||(pv 1)|||(ix_tup<<<(pv 0)<<<pe_int))>=>pa_nil) (by rfl) (by rfl) (by rfl) (by rfl) (by rfl)) (by rfl))<=<(~~~(1<|>sc__law_digits.nd<|>(op_fdv|||(pv 1)|||(ix_tup<<<(pv 0)<<<pe_int)))))))<=<(~~~((pv 2)⁻¹))), ?_⟩
  try dsimp only [cxOf]
  refine ⟨szl 0, fun l hl => ?_⟩
  have g1 : Same H (upd H l (.lst [])) := same_new hl _
  refine ⟨_, rfl, a, _, _, _, rfl, rfl, Same.tup g1 hF, rfl, m, rfl, by lia, by lia, for_range (n := m) (fun i σ H' => H' = upd H l (.lst (digL p i x)) ∧ ∃ s, σ = [some (.ref a), some (.int ((x / p ^ i : Nat) : Int)), some (.ref l), s]) ⟨rfl, none, by simp; rfl⟩ ?_ ?_⟩
  · rintro i σ H' hi ⟨rfl, s, rfl⟩
    have g2 : Same H (upd H l (.lst (digL p i x))) := same_new hl _
    refine ⟨_, rfl, .inl ⟨rfl, _, SqL.of upd_same⟩, ?_⟩
    walk_at "rd"
    refine ⟨a, _, _, _, rfl, rfl, Same.tup g2 hF, rfl, ?_⟩
    walk_at "rd"
    refine ⟨by show (0 : Int) < p; lia, l, _, _, rfl, rfl, upd_same, by rw [digL_len]; exact Nat.lt_of_le_of_lt (show i ≤ 1000 by lia) (small1000 (Nat.le_refl _)), ?_⟩
    rw [upd_upd]
    have g3 : Same H (upd H l (.lst (digL p (i + 1) x))) := same_new hl _
    have e1 : digL p i x ++ [V.int (((x / p ^ i : Nat) : Int) % (p : Int))] = digL p (i + 1) x := by rw [digL_succ]; rfl
    rw [e1]
    refine ⟨_, rfl, _, rfl, a, _, _, _, rfl, rfl, Same.tup g3 hF, rfl, ?_⟩
    walk_at "rd"
    refine ⟨⟨by show (0 : Int) < p; lia, by show (p : Int) < 2 ^ 64; lia⟩, rfl, some (.int (0 + (i : Int))), ?_⟩
    rw [Nat.pow_succ, ← Nat.div_div_eq_div_mul]; rfl
  · rintro σ H' ⟨rfl, s, rfl⟩
    exact ⟨_, rfl, q l _ hl (same_new hl _) upd_same⟩
/-! number -/
noncomputable def num (p : Nat) : List Nat → Nat
  | [] => 0
  | d :: ds => num p ds * p + d
theorem num_dg {p : Nat} (hp : 2 ≤ p) : ∀ (ds : List Nat), (∀ d ∈ ds, d < p) → ∀ i, dg p i (num p ds) = ds.getD i 0
  | [], _, i => by simp [num, dg_nil]
  | d :: ds, h, i => by
    have hd : d < p := h d List.mem_cons_self
    have ih := num_dg hp ds fun x hx => h x (List.mem_cons_of_mem _ hx)
    cases i with
    | zero => rw [dg_zero]; show (num p ds * p + d) % p = d; rw [Nat.mul_comm, Nat.mul_add_mod, Nat.mod_eq_of_lt hd]
    | succ i =>
      rw [dg_succ]
      show dg p i ((num p ds * p + d) / p) = ds.getD i 0
      rw [Nat.mul_comm, Nat.mul_add_div (by lia), Nat.div_eq_of_lt hd, Nat.add_zero]
      exact ih i
inductive sp_number (K : PySem.W.Frag) (vs : List V) (H : Hp) (Q : VK) (E : XK) : Prop
  | mk (a b : Addr) (p m t : Nat) (ds : List Nat) (c1 : vs = [.ref a, .ref b]) (c2 : Fld K H a p m t) (c3 : 2 ≤ p) (c4 : p ≤ 64) (c5 : SqL K H b (ds.map Vn)) (c6 : ∀ H', Same H H' → Q (Vn (num p ds)) H') : sp_number K vs H Q E
theorem sc__law_number : FnScope ["_law_field_here", "_law_digits_here", "_law_found", "_law_digit"] ["_law_field_here", "_law_digits_here"] (defScope s__law_number) := ⟨rfl, rfl, rfl, by decide +kernel, rfl, by decide +kernel, by decide +kernel⟩
theorem ok_number (B : Bl mg) (F : Fun K "_law_number" "_law_number" s__law_number f fd) : FnOk P w K mg base CX0 1 f fd ["_law_field_here", "_law_digits_here"] (sp_number K) := by
  refine F.ok sc__law_number (fun vs H Q E h => ?_) (fun cdv A outer s H vs Q E hr h => ?_)
  · obtain ⟨a, b, p, m, t, ds, rfl, _⟩ := h; rfl
  obtain ⟨a, b, p, m, t, ds, rfl, hF, hp, hp2, hb, q⟩ := h
  refine ⟨_, ((2<|>sc__law_number.nd<|>pe_int)<=<((@pi_list _ _ _ _ (@pe_rev _ _ _ _ _ _ _ _ (pv 1)))<&>((3&&&sc__law_number.nd),(~~~(2<|>sc__law_number.nd<|>(op_add|||(op_mul|||(pv 2)|||(ix_tup<<<(pv 0)<<<pe_int))|||(pv 3))))))<=<(~~~((pv 2)⁻¹))), ?_⟩
  try dsimp only [cxOf]
  refine ⟨_, rfl, b, _, rfl, hb, fun l hl => ?_⟩
  have g1 : Same H (upd H l (.lst (ds.map Vn).reverse)) := same_new hl _
  refine ⟨l, rfl, ⟨_, SqL.of upd_same⟩, for_list (xs := (ds.map Vn).reverse) (fun i σ H' => H' = upd H l (.lst (ds.map Vn).reverse) ∧ ∃ s, σ = [some (.ref a), some (.ref b), some (Vn (num p (ds.drop (ds.length - i)))), s]) ⟨rfl, none, by rw [Nat.sub_zero, List.drop_length]; rfl⟩ ?_ ?_ ?_⟩
  · rintro i σ H' hi ⟨rfl, _⟩; exact SqL.of upd_same
  · rintro i x σ H' hx ⟨rfl, s, rfl⟩
    have hi : i < ds.length := by have := (List.getElem?_eq_some_iff.mp hx).1; simpa using this
    have ex : x = Vn (ds[ds.length - 1 - i]) := by
      rw [List.getElem?_reverse (by simpa using hi), List.getElem?_map, List.length_map, List.getElem?_eq_getElem (by lia)] at hx
      exact (Option.some.inj hx).symm
    subst ex
    walk_at "rd"
    refine ⟨a, _, _, _, rfl, rfl, Same.tup g1 hF, rfl, ?_⟩
    walk_at "rd"
    refine ⟨.inr ⟨by show -(2 ^ 64 : Int) < (p : Int); lia, by show (p : Int) < 2 ^ 64; lia⟩, ?_⟩
    walk_at "rd"
    refine ⟨rfl, some (Vn (ds[ds.length - 1 - i])), ?_⟩
    have e : ds.drop (ds.length - (i + 1)) = ds[ds.length - 1 - i] :: ds.drop (ds.length - i) := by
      rw [show ds.length - (i + 1) = ds.length - 1 - i by lia, List.drop_eq_getElem_cons (by lia)]
      congr 2; lia
    rw [e]; rfl
  · rintro σ H' ⟨rfl, s, rfl⟩
    refine ⟨_, rfl, ?_⟩
    have e : ds.length - (ds.map Vn).reverse.length = 0 := by simp
    rw [e, List.drop_zero]
    exact q _ g1
/-! purse -/
inductive sp_purse (K : PySem.W.Frag) (vs : List V) (H : Hp) (Q : VK) (E : XK) : Prop
  | mk (a : Addr) (ns : List Int) (c1 : vs = [.ref a]) (c2 : SqL K H a (ns.map V.int)) (c3 : ∀ r g H', H r = none → H g = none → Same H H' → Pu H' r g → Q (.ref r) H') : sp_purse K vs H Q E
theorem sc__law_purse : FnScope ["_law_script", "_law_seed", "_law_great", "_law_cell"] ["_law_script"] (defScope s__law_purse) := ⟨rfl, rfl, rfl, by decide +kernel, rfl, by decide +kernel, by decide +kernel⟩
theorem nat_of {i : Int} (h : 0 ≤ i) : ∃ n : Nat, V.int i = Vn n := by obtain ⟨n, e⟩ := Int.eq_ofNat_of_zero_le h; exact ⟨n, by rw [e]⟩
theorem ok_purse (B : Bl mg) (F : Fun K "_law_purse" "_law_purse" s__law_purse f fd) : FnOk P w K mg base CX0 1 f fd ["_law_script"] (sp_purse K) := by
  refine F.ok sc__law_purse (fun vs H Q E h => ?_) (fun cdv A outer s H vs Q E hr h => ?_)
  · obtain ⟨a, ns, rfl, _⟩ := h; rfl
  obtain ⟨a, ns, rfl, ha, q⟩ := h
  refine ⟨_, ((@ps_par _ _ 1 2 _ _ _ _ _ _ _ _ _ _ _ rfl sc__law_purse.nd rfl rfl (by decide) rfl rfl (pe_int>=>(@pe_lst _ _ _ _ pa_nil)>=>pa_nil) rfl (by rfl))<=<((@pi_list _ _ _ _ (@pe_slice _ _ _ _ _ _ _ _ _ _ sl_list (pv 0) po_none (@po_some _ _ _ pe_int)))<&>((3&&&sc__law_purse.nd),((1<|>sc__law_purse.nd<|>(op_mod|||(op_add|||(op_add|||(op_mul|||(pv 1)|||pe_int)|||(op_mod|||(pv 3)|||pe_int))|||pe_int)|||pe_int))<=<(~~~((op_ge∪(call_abs>>>("abs",boot_bi_abs,((pv 3)>=>pa_nil)))∪(op_pow|||pe_int|||pe_int))*>((~~~(@ps_expr _ _ _ _ (@pe_bm _ _ _ _ _ _ _ _ _ _ _ _ PySem.F.plainAttrs_list PySem.F.slot_list_append PySem.F.type_list_append mt_append (pv 2) ((op_mod|||(call_abs>>>("abs",boot_bi_abs,((pv 3)>=>pa_nil)))|||(op_mulB|||(op_pow|||pe_int|||pe_int)|||(op_pow|||pe_int|||pe_int)))>=>pa_nil) (by rfl) (by rfl) (by rfl) (by rfl) (by rfl)) (by rfl))),pss_nil))))))<=<(~~~((@pe_lst _ _ _ _ ((pv 2)>=>(pv 1)>=>pe_int>=>pa_nil))⁻¹))), ?_⟩
  try dsimp only [cxOf]
  refine ⟨szl 0, fun g hg => ?_⟩
  have g1 : Same H (upd H g (.lst [])) := same_new hg _
  refine ⟨_, _, rfl, ?_⟩
  refine ⟨_, rfl, _, rfl, a, _, rfl, g1.seq ha, fun l hl => ?_⟩
  generalize hcut : cutV (ns.map V.int) none (some 40) = cs
  have hcs : ∀ x ∈ cs, ∃ i : Int, x = .int i := fun x hx => by
    rw [← hcut] at hx
    unfold cutV at hx
    obtain ⟨i, _, e⟩ := List.mem_map.mp (List.mem_of_mem_drop (List.mem_of_mem_take hx))
    exact ⟨i, e.symm⟩
  have hlen : cs.length ≤ 40 := by
    rw [← hcut]; unfold cutV
    rw [List.length_take, show HT.sIx (ns.map V.int).length (ns.map V.int).length (some 40) = min 40 (ns.map V.int).length from HT.sIx_nat _ _ 40]
    lia
  have hgl : l ≠ g := fun e => by rw [e, upd_same] at hl; cases hl
  refine ⟨l, rfl, ⟨_, SqL.of upd_same⟩, for_list (xs := cs) (fun i σ H' => (Ex3 fun (s : Nat) (x : Option V) (gs : List Nat) => gs.length ≤ i ∧ σ = [some (.ref a), some (Vn s), some (.ref g), x] ∧ H' g = some (.lst (gs.map Vn))) ∧ Same H H' ∧ H' l = some (.lst cs))
    ⟨⟨7, none, [], Nat.le_refl _, rfl, by rw [upd_ne (Ne.symm hgl)]; exact upd_same⟩, g1.trans (same_new hl _), upd_same⟩ ?_ ?_ ?_⟩
  · rintro i σ H' hi ⟨_, _, h⟩; exact SqL.of h
  · rintro i x σ H' hx ⟨⟨s, x0, gs, hgs, rfl, hg'⟩, sm, hl'⟩
    obtain ⟨c, rfl⟩ := hcs x (List.mem_of_getElem? hx)
    have hi : i < cs.length := (List.getElem?_eq_some_iff.mp hx).1
    walk_at "rd"
    refine ⟨.inr ⟨by decide, by decide⟩, ?_⟩
    walk_at "rd"
    refine ⟨by show (0 : Int) < 2305843009213693951; decide, ?_⟩
    walk_at "rd"
    refine ⟨by show (0 : Int) < 2305843009213693951; decide, ?_⟩
    obtain ⟨s', es⟩ := nat_of (i := ((s : Int) * 1000003 + c % 2305843009213693951 + 12345) % 2305843009213693951) (Int.emod_nonneg _ (by decide))
    dsimp only [gName]; rw [es]
    refine ⟨_, rfl, _, rfl, _, _, rfl, rfl, ⟨by decide, by decide, by decide⟩, ?_⟩
    refine ⟨_, _, rfl, rfl, _, rfl, ?_⟩
    refine ite2 (fun c2 => ?_) (fun c2 => ?_)
    · refine ⟨_, rfl, .inl ⟨rfl, _, SqL.of hg'⟩, ?_⟩
      refine ⟨_, rfl, _, rfl, _, _, rfl, rfl, ⟨by decide, by decide, by decide⟩, ?_⟩
      refine ⟨_, _, rfl, rfl, ⟨by decide, by decide, by decide⟩, ?_⟩
      refine ⟨_, _, rfl, rfl, IntMulOk.of_bits (by decide +kernel) (by decide +kernel), ?_⟩
      refine ⟨_, _, rfl, rfl, by show (0 : Int) < 10 ^ Int.toNat 60 * 10 ^ Int.toNat 60; decide +kernel, ?_⟩
      obtain ⟨d, ed⟩ := nat_of (i := (if c < 0 then -c else c) % (10 ^ (60 : Int).toNat * 10 ^ (60 : Int).toNat)) (Int.emod_nonneg _ (by decide))
      (try dsimp only); rw [ed]
      refine ⟨g, _, _, rfl, rfl, hg', ?_, ⟨s', some (.int c), gs ++ [d], by simp; lia, rfl, by rw [upd_same, List.map_append]; rfl⟩, ?_, ?_⟩
      · rw [List.length_map]; exact Nat.lt_of_le_of_lt (show gs.length ≤ 1000 by lia) (small1000 (Nat.le_refl _))
      · intro b o e
        rw [upd_ne (ne_of_none e hg)]
        exact sm b o e
      · rw [upd_ne hgl]; exact hl'
    · exact ⟨⟨s', some (.int c), gs, by lia, rfl, hg'⟩, sm, hl'⟩
  · rintro σ H' ⟨⟨s, x, gs, hgs, rfl, hg'⟩, sm, _⟩
    refine ⟨_, rfl, _, rfl, szl 3, fun r hr => ?_⟩
    have ne : g ≠ r := ne_of_none hg' hr
    refine q r g _ (sm.free hr) hg (sm.trans (same_new hr _)) ⟨gs, s, 0, upd_same, ?_⟩
    rw [upd_ne ne]; exact hg'

/-! pick -/
theorem atI_head {α : Type} (x : α) (xs : List α) : atI (x :: xs) 0 = some x := atI_nat (j := 0) rfl
theorem ixN_zero {n : Nat} (h : 0 < n) : ixN n 0 = some 0 := by
  unfold ixN
  rw [if_pos (by decide), if_pos (by lia)]; rfl
theorem seq_cut {t u : TS} {D : Ends} {σ : St} {H : Hp} (Ex : St → Hp → Prop) (r : ∀ σ' H', Ex σ' H' → u D σ' H') (h : ∀ D' : Ends, D'.rt = D.rt → D'.bk = D.bk → D'.ct = D.ct → (∀ σ' H', Ex σ' H' → D'.nx σ' H') → t D' σ H) : tSeq t u D σ H := h _ rfl rfl rfl r
inductive sp_pick (vs : List V) (H : Hp) (Q : VK) (E : XK) : Prop
  | mk (a g : Addr) (n : Nat) (c1 : vs = [.ref a, Vn n]) (c2 : Pu H a g) (c3 : 0 < n) (c4 : n < 2 ^ 200) (c5 : ∀ (r : Nat) H', r < n → Pu H' a g → SameX a g H H' → Q (Vn r) H') : sp_pick vs H Q E
noncomputable def lenAt (H : Hp) (g : Addr) : Nat := match H g with
  | some (.lst xs) => xs.length
  | _ => 0
theorem lenAt_of {H : Hp} {g : Addr} {xs : List V} (h : H g = some (.lst xs)) : lenAt H g = xs.length := by unfold lenAt; rw [h]
theorem modn {x : Int} {n : Nat} (h : 0 < n) : ∃ r : Nat, r < n ∧ V.int (x % (n : Int)) = Vn r := by
  have h1 := Int.emod_nonneg x (show (n : Int) ≠ 0 by lia)
  have h2 := Int.emod_lt_of_pos x (show (0 : Int) < n by lia)
  exact ⟨(x % (n : Int)).toNat, by lia, by show V.int _ = V.int _; congr 1; lia⟩
theorem sc__law_pick : FnScope ["_law_purse_here", "_law_many", "_law_digit", "_law_turn", "_law_prime", "_law_once", "_law_mixed"] ["_law_purse_here", "_law_many"] (defScope s__law_pick) := ⟨rfl, rfl, rfl, by decide +kernel, rfl, by decide +kernel, by decide +kernel⟩
theorem ok_pick (B : Bl mg) (F : Fun K "_law_pick" "_law_pick" s__law_pick f fd) : FnOk P w K mg base CX0 1 f fd ["_law_purse_here", "_law_many"] sp_pick := by
  refine F.ok sc__law_pick (fun vs H Q E h => ?_) (fun cdv A outer s H vs Q E hr h => ?_)
  · obtain ⟨a, g, n, rfl, _⟩ := h; rfl
  obtain ⟨a, g, n, rfl, hP, hn, hn2, q⟩ := h
  have nag := hP.ne
  refine ⟨_, ((@ps_while _ _ _ _ _ _ PassesOwn.never (@PW.pt _ _ _ (@pw_and _ _ _ _ _ _ _ ((op_neE hr.units0)∪(ix_list<<<(pv 0)<<<pe_int)∪(@pe_lst _ _ _ _ pa_nil)) (@pw_and1 _ _ _ _ (op_eq∪(ix_list<<<(ix_list<<<(pv 0)<<<pe_int)<<<pe_int)∪pe_int)))) (~~~(@ps_expr _ _ _ _ (@pe_bm _ _ _ _ _ _ _ _ _ _ _ _ PySem.F.plainAttrs_list PySem.F.slot_list_pop PySem.F.type_list_pop mt_popAt (ix_list<<<(pv 0)<<<pe_int) (pe_int>=>pa_nil) (by rfl) (by rfl) (by rfl) (by rfl) (by rfl)) (by rfl))))<=<(((op_neE hr.units0)∪(ix_list<<<(pv 0)<<<pe_int)∪(@pe_lst _ _ _ _ pa_nil))*>(((2<|>sc__law_pick.nd<|>(op_mod|||(ix_list<<<(ix_list<<<(pv 0)<<<pe_int)<<<pe_int)|||(pv 1)))<=<(@ps_asg _ _ _ _ _ _ (op_fdvB|||(ix_list<<<(ix_list<<<(pv 0)<<<pe_int)<<<pe_int)|||(pv 1)) (@pg_sub _ _ _ _ _ _ _ (ix_list<<<(pv 0)<<<pe_int) pe_int set_list (by intro _; rfl)) (by rfl) (by rfl) (by rfl))<=<(~~~((pv 2)⁻¹))),pss_nil))<=<(@ps_asg _ _ _ _ _ _ (op_add|||(ix_list<<<(pv 0)<<<pe_int)|||pe_int) (@pg_sub _ _ _ _ _ _ _ (pv 0) pe_int set_list (by intro _; rfl)) (by rfl) (by rfl) (by rfl))<=<(3<|>sc__law_pick.nd<|>(ix_list<<<(pv 0)<<<pe_int))<=<(4<|>sc__law_pick.nd<|>(ix_list<<<(@pe_lst _ _ _ _ (pe_int>=>pe_int>=>pe_int>=>pe_int>=>pe_int>=>pe_int>=>pe_int>=>pa_nil))<<<(op_mod|||(pv 3)|||pe_int)))<=<(5<|>sc__law_pick.nd<|>(op_mod|||(op_add|||(ix_list<<<(pv 0)<<<pe_int)|||(op_mul|||pe_int|||(pv 3)))|||pe_int))<=<(6<|>sc__law_pick.nd<|>(op_mul|||(op_mod|||(op_pow|||(pv 5)|||pe_int)|||pe_int)|||(op_add|||(op_mul|||pe_int|||(pv 3))|||pe_int)))<=<(~~~((op_mod|||(op_fdv|||(op_mod|||(op_add|||(pv 6)|||(op_fdv|||(ix_list<<<(pv 0)<<<pe_int)|||pe_int))|||(pv 4))|||pe_int)|||(pv 1))⁻¹))), ?_⟩
  try dsimp only [cxOf]
  let I1 : St → Hp → Prop := fun σ H' => An3 (σ = [some (.ref a), some (Vn n), none, none, none, none, none]) (Pu H' a g) (SameX a g H H')
  refine seq_cut I1 ?_ ?_
  · rintro σ H' ⟨rfl, ⟨ns, x, t, ha, hg⟩, sm⟩
    let I2 : St → Hp → Prop := fun σ H1 => ns = [] ∧ σ = [some (.ref a), some (Vn n), none, none, none, none, none] ∧ H1 a = some (.lst [.ref g, Vn x, Vn t]) ∧ H1 g = some (.lst []) ∧ SameX a g H H1
    refine seq_cut I2 ?_ ?_
    · rintro σ H1 ⟨rfl, rfl, ha, hg, sm⟩
      -- the mixed number
      refine ⟨_, rfl, a, _, _, _, rfl, rfl, SqL.of ha, rfl, ?_⟩
      refine ⟨_, _, rfl, rfl, ?_⟩
      refine ⟨_, rfl, a, _, 2, 2, rfl, rfl, ha, rfl, ?_⟩
      have h1 : (upd H1 a (.lst [.ref g, Vn x, .int ((t : Int) + 1)])) a = some (.lst [.ref g, Vn x, Vn (t + 1)]) := upd_same
      have h2 : (upd H1 a (.lst [.ref g, Vn x, .int ((t : Int) + 1)])) g = some (.lst []) := by rw [upd_ne (Ne.symm nag)]; exact hg
      have h3 : SameX a g H (upd H1 a (.lst [.ref g, Vn x, .int ((t : Int) + 1)])) := fun b o n1 n2 e => by rw [upd_ne n1]; exact sm b o n1 n2 e
      change tSeq _ _ _ _ (upd H1 a (.lst [.ref g, Vn x, .int ((t : Int) + 1)]))
      generalize upd H1 a (.lst [.ref g, Vn x, .int ((t : Int) + 1)]) = H2 at h1 h2 h3 ⊢
      refine ⟨_, rfl, a, _, _, _, rfl, rfl, SqL.of h1, rfl, ?_⟩
      refine ⟨szl 7, fun l hl => ?_⟩
      have nla : a ≠ l := ne_of_none h1 hl
      have nlg : g ≠ l := ne_of_none h2 hl
      refine ⟨_, rfl, _, _, rfl, rfl, by show (0 : Int) < 7; decide, ?_⟩
      obtain ⟨k, hk, ek⟩ := modn (x := ((t + 1 : Nat) : Int)) (n := 7) (by lia)
      have hprime : ∃ pr : Nat, 61 < pr ∧ atI [V.int 2147483629, .int 2147483587, .int 2147483579, .int 2147483563, .int 2147483549, .int 2147483543, .int 2147483497] (k : Int) = some (Vn pr) := by
        have : k = 0 ∨ k = 1 ∨ k = 2 ∨ k = 3 ∨ k = 4 ∨ k = 5 ∨ k = 6 := by lia
        rcases this with rfl | rfl | rfl | rfl | rfl | rfl | rfl
        · exact ⟨2147483629, by decide, rfl⟩
        · exact ⟨2147483587, by decide, rfl⟩
        · exact ⟨2147483579, by decide, rfl⟩
        · exact ⟨2147483563, by decide, rfl⟩
        · exact ⟨2147483549, by decide, rfl⟩
        · exact ⟨2147483543, by decide, rfl⟩
        · exact ⟨2147483497, by decide, rfl⟩
      obtain ⟨pr, hpr, epr⟩ := hprime
      have ek' : ((t + 1 : Nat) : Int) % (7 : Int) = (k : Int) := by have := V.int.inj ek; exact this
      refine ⟨l, _, k, Vn pr, rfl, ek, SqL.of upd_same, epr, ?_⟩
      have h1' : (upd H2 l (.lst [V.int 2147483629, .int 2147483587, .int 2147483579, .int 2147483563, .int 2147483549, .int 2147483543, .int 2147483497])) a = some (.lst [.ref g, Vn x, Vn (t + 1)]) := by rw [upd_ne nla]; exact h1
      have h2' : (upd H2 l (.lst [V.int 2147483629, .int 2147483587, .int 2147483579, .int 2147483563, .int 2147483549, .int 2147483543, .int 2147483497])) g = some (.lst []) := by rw [upd_ne nlg]; exact h2
      have h3' : SameX a g H (upd H2 l (.lst [V.int 2147483629, .int 2147483587, .int 2147483579, .int 2147483563, .int 2147483549, .int 2147483543, .int 2147483497])) := h3.trans (Same.x (same_new hl _))
      change tSeq _ _ _ _ (upd H2 l (.lst [V.int 2147483629, .int 2147483587, .int 2147483579, .int 2147483563, .int 2147483549, .int 2147483543, .int 2147483497]))
      generalize upd H2 l (.lst [V.int 2147483629, .int 2147483587, .int 2147483579, .int 2147483563, .int 2147483549, .int 2147483543, .int 2147483497]) = H3 at h1' h2' h3' ⊢
      refine ⟨_, rfl, a, _, _, _, rfl, rfl, SqL.of h1', rfl, ?_⟩
      refine ⟨_, rfl, _, _, rfl, rfl, .inl ⟨by decide, by decide⟩, ?_⟩
      refine ⟨_, _, rfl, rfl, ?_⟩
      refine ⟨_, _, rfl, rfl, by show (0 : Int) < 2147483647; decide, ?_⟩
      obtain ⟨on, hon, eon⟩ := modn (x := (x : Int) + 65537 * ((t + 1 : Nat) : Int)) (n := 2147483647) (by decide)
      dsimp only [gName]
      rw [show V.int (((x : Int) + 65537 * ((t + 1 : Nat) : Int)) % 2147483647) = Vn on from eon]
      refine ⟨_, rfl, _, _, rfl, rfl, ⟨by decide, by decide, by show (on : Int).natAbs < 2 ^ 64; lia⟩, ?_⟩
      refine ⟨_, _, rfl, rfl, by show (0 : Int) < 2147483647; decide, ?_⟩
      obtain ⟨o5, ho5, eo5⟩ := modn (x := (on : Int) ^ (5 : Int).toNat) (n := 2147483647) (by decide)
      refine ⟨_, rfl, _, _, rfl, rfl, .inl ⟨by decide, by decide⟩, ?_⟩
      refine ⟨_, _, rfl, rfl, ?_⟩
      have b5 : (on : Int) ^ (5 : Int).toNat % 2147483647 = (o5 : Int) := V.int.inj eo5
      refine ⟨_, _, rfl, rfl, .inl ⟨by rw [b5]; lia, by rw [b5]; lia⟩, ?_⟩
      refine ⟨_, rfl, _, rfl, a, _, _, _, rfl, rfl, SqL.of h1', rfl, ?_⟩
      refine ⟨_, _, rfl, rfl, ⟨by show (0 : Int) < 2147483647; decide, by show (2147483647 : Int) < 2 ^ 64; decide⟩, ?_⟩
      refine ⟨_, _, rfl, rfl, ?_⟩
      refine ⟨_, rfl, _, _, rfl, rfl, by show (0 : Int) < (pr : Int); lia, ?_⟩
      refine ⟨_, _, rfl, rfl, ⟨by show (0 : Int) < 61; decide, by show (61 : Int) < 2 ^ 64; decide⟩, ?_⟩
      refine ⟨_, rfl, _, _, rfl, rfl, by show (0 : Int) < (n : Int); lia, ?_⟩
      obtain ⟨r, hr', er⟩ := modn (x := ((on : Int) ^ (5 : Int).toNat % 2147483647 * (2 * ((t + 1 : Nat) : Int) + 1) + (x : Int) / 2147483647) % (pr : Int) / 61) hn
      dsimp only
      rw [er]
      exact q r H3 hr' ⟨[], x, t + 1, h1', h2'⟩ h3'
    · intro D' hrt _ _ hD
      refine ⟨_, rfl, a, _, _, _, rfl, rfl, SqL.of ha, rfl, szl 0, fun l hl => ?_⟩
      have nla : a ≠ l := ne_of_none ha hl
      have nlg : g ≠ l := ne_of_none hg hl
      have hg1 : (upd H' l (.lst [])) g = some (.lst (ns.map Vn)) := by rw [upd_ne nlg]; exact hg
      have ha1 : (upd H' l (.lst [])) a = some (.lst [.ref g, Vn x, Vn t]) := by rw [upd_ne nla]; exact ha
      have sm1 : SameX a g H (upd H' l (.lst [])) := sm.trans (Same.x (same_new hl _))
      refine ⟨g, l, _, rfl, rfl, SqL.of hg1, SqL.of upd_same, _, rfl, ?_⟩
      refine ite2 (fun c => ?_) (fun c => ?_)
      · cases ns with
        | nil => exact absurd c (by simp)
        | cons d ns =>
          refine ⟨_, rfl, a, _, _, _, rfl, rfl, SqL.of ha1, rfl, ?_⟩
          refine ⟨g, _, _, _, rfl, rfl, SqL.of hg1, atI_head _ _, ?_⟩
          refine ⟨_, rfl, _, _, rfl, rfl, by show (0 : Int) < (n : Int); lia, ?_⟩
          refine ⟨_, rfl, a, _, _, _, rfl, rfl, SqL.of ha1, rfl, ?_⟩
          refine ⟨g, _, _, _, rfl, rfl, SqL.of hg1, atI_head _ _, ?_⟩
          refine ⟨_, rfl, _, _, rfl, rfl, ⟨by show (0 : Int) < (n : Int); lia, by show (n : Int) < 2 ^ 1000; lia⟩, ?_⟩
          refine ⟨_, rfl, a, _, _, _, rfl, rfl, SqL.of ha1, rfl, ?_⟩
          refine ⟨g, _, 0, 0, rfl, rfl, hg1, ixN_zero (by simp), ?_⟩
          refine ⟨_, rfl, ?_⟩
          rw [hrt]
          refine q (d % n) _ (Nat.mod_lt _ hn) ⟨(d / n) :: ns, x, t, by rw [upd_ne nag]; exact ha1, upd_same⟩ fun b o n1 n2 e => by rw [upd_ne n2]; exact sm1 b o n1 n2 e
      · cases ns with
        | nil => exact hD _ _ ⟨rfl, rfl, ha1, hg1, sm1⟩
        | cons d ns => exact absurd (by simp) c
  · intro D' _ _ _ hD
    let I3 : St → Hp → Prop := fun σ H' => An3 (σ = [some (.ref a), some (Vn n), none, none, none, none, none]) (Pu H' a g) (SameX a g H H')
    refine while_go I3 (fun _ H' => lenAt H' g) ⟨rfl, hP, SameX.refl⟩ ?_
    rintro σ H' ⟨rfl, ⟨ns, x, t, ha, hg⟩, sm⟩
    refine ⟨_, rfl, a, _, _, _, rfl, rfl, SqL.of ha, rfl, szl 0, fun l hl => ?_⟩
    have nla : a ≠ l := ne_of_none ha hl
    have nlg : g ≠ l := ne_of_none hg hl
    have hg1 : (upd H' l (.lst [])) g = some (.lst (ns.map Vn)) := by rw [upd_ne nlg]; exact hg
    have ha1 : (upd H' l (.lst [])) a = some (.lst [.ref g, Vn x, Vn t]) := by rw [upd_ne nla]; exact ha
    have sm1 : SameX a g H (upd H' l (.lst [])) := sm.trans (Same.x (same_new hl _))
    refine ⟨g, l, _, rfl, rfl, SqL.of hg1, SqL.of upd_same, _, rfl, ?_⟩
    refine ite2 (fun c => ?_) (fun c => ?_)
    · cases ns with
      | nil => exact absurd c (by simp)
      | cons d ns =>
        refine ⟨_, rfl, a, _, _, _, rfl, rfl, SqL.of ha1, rfl, ?_⟩
        refine ⟨g, _, _, _, rfl, rfl, SqL.of hg1, atI_head _ _, ?_⟩
        refine ⟨rfl, _, rfl, ?_⟩
        refine ite2 (fun c => ?_) (fun c => ?_)
        · refine ⟨fun σ' H'' => σ' = [some (.ref a), some (Vn n), none, none, none, none, none] ∧ H'' = upd (upd H' l (.lst [])) g (.lst (ns.map Vn)), ?_, ?_⟩
          · rintro σ' H'' ⟨rfl, rfl⟩
            refine ⟨_, ?_, rfl, rfl, ⟨ns, x, t, by rw [upd_ne nag]; exact ha1, upd_same⟩, fun b o n1 n2 e => by rw [upd_ne n2]; exact sm1 b o n1 n2 e⟩
            rw [lenAt_of hg, lenAt_of (xs := ns.map Vn) upd_same]; simp
          · refine ⟨_, rfl, a, _, _, _, rfl, rfl, SqL.of ha1, rfl, .inl ⟨rfl, _, SqL.of hg1⟩, ?_⟩
            exact ⟨g, _, 0, 0, Vn d, rfl, rfl, hg1, by decide, by decide, (ixN_seq (ixN_zero (by simp))).1, rfl, rfl, rfl⟩
        · exact hD _ _ ⟨rfl, ⟨d :: ns, x, t, ha1, hg1⟩, sm1⟩
    · refine ite2 (fun c2 => absurd c2 (by decide)) (fun _ => ?_)
      exact hD _ _ ⟨rfl, ⟨ns, x, t, ha1, hg1⟩, sm1⟩
end
end My

end
section
set_option Elab.async false
set_option linter.all false
set_option maxRecDepth 100000
set_option maxHeartbeats 4000000
namespace My
open PySem L2 Dg
local macro_rules | `(tactic| walk_at "rd") => `(tactic| repeat (first | refine ⟨_, rfl, ?_⟩ | refine ⟨_, _, rfl, rfl, ?_⟩))
/-! sums -/
noncomputable def sumN : Nat → (Nat → Nat) → Nat
  | 0, _ => 0
  | n + 1, g => sumN n g + g n
theorem sumN_front : ∀ (n : Nat) (g : Nat → Nat), sumN (n + 1) g = g 0 + sumN n fun j => g (j + 1)
  | 0, g => by simp [sumN]
  | n + 1, g => by rw [sumN, sumN_front n g, sumN]; lia
theorem sumN_congr {n : Nat} {g h : Nat → Nat} (e : ∀ j, j < n → g j = h j) : sumN n g = sumN n h := by
  induction n with
  | zero => rfl
  | succ n ih => rw [sumN, sumN, ih fun j hj => e j (by lia), e n (by lia)]
noncomputable def shN (j : Nat) (y : Nat → Nat) (i : Nat) : Nat := if j ≤ i then y (i - j) else 0
theorem convF_sum : ∀ (k : Nat) (f y : Nat → Nat) (i : Nat), convF k f y i = sumN k fun j => f j * shN j y i
  | 0, _, _, _ => rfl
  | k + 1, f, y, i => by
    rw [sumN_front]
    show f 0 * y i + shiftF (convF k (fun j => f (j + 1)) y) i = f 0 * shN 0 y i + _
    congr 1
    unfold shiftF
    by_cases h : i = 0
    · rw [if_pos h]
      subst h
      have : ∀ n, sumN n (fun j => f (j + 1) * shN (j + 1) y 0) = 0 := fun n => by
        induction n with
        | zero => rfl
        | succ n ih => rw [sumN, ih]; unfold shN; rw [if_neg (by lia)]; simp
      exact (this k).symm
    · rw [if_neg h, convF_sum k]
      refine sumN_congr fun j _ => ?_
      congr 1
      unfold shN
      by_cases h2 : j + 1 ≤ i
      · rw [if_pos h2, if_pos (by lia)]; congr 1; lia
      · rw [if_neg h2, if_neg (by lia)]
/-! rows of rests -/
noncomputable def rowL (p n : Nat) (c : Nat → Nat) : List V := (List.range n).map fun i => Vn (c i % p)
theorem rowL_len (p n : Nat) (c : Nat → Nat) : (rowL p n c).length = n := by simp [rowL]
theorem rowL_get {p n : Nat} (c : Nat → Nat) {i : Nat} (h : i < n) : (rowL p n c)[i]? = some (Vn (c i % p)) := by
  unfold rowL; rw [List.getElem?_map, List.getElem?_range h]; rfl
theorem rowL_at {p n : Nat} (c : Nat → Nat) {i : Nat} {j : Int} (h : i < n) (e : j = (i : Int)) : atI (rowL p n c) j = some (Vn (c i % p)) := by
  subst e; exact atI_nat (rowL_get c h)
theorem rowL_congr {p n : Nat} {c c' : Nat → Nat} (h : ∀ i, i < n → c i % p = c' i % p) : rowL p n c = rowL p n c' := by
  unfold rowL
  refine List.map_congr_left fun i hi => ?_
  rw [h i (List.mem_range.mp hi)]
theorem rowL_set {p n : Nat} (c : Nat → Nat) {s v : Nat} (h : s < n) : (rowL p n c).set s (Vn (v % p)) = rowL p n fun i => if i = s then v else c i := by
  refine List.ext_getElem? fun i => ?_
  by_cases hi : i < n
  · rw [rowL_get _ hi, List.getElem?_set]
    by_cases e : s = i
    · subst e; rw [if_pos rfl, if_pos (by rw [rowL_len]; exact hi), if_pos rfl]
    · rw [if_neg e, rowL_get _ hi, if_neg (Ne.symm e)]
  · rw [List.getElem?_eq_none (by rw [List.length_set, rowL_len]; lia), List.getElem?_eq_none (by rw [rowL_len]; lia)]
theorem row_add {p n : Nat} {c : Nat → Nat} {s v : Nat} (h : s < n) {c' : Nat → Nat} (hc : ∀ i, i < n → c' i % p = (if i = s then c s % p + v else c i) % p) : (rowL p n c).set s (Vn ((c s % p + v) % p)) = rowL p n c' :=
  (rowL_set c h).trans (rowL_congr fun i hi => (hc i hi).symm)
theorem ixN_nat {n s : Nat} {j : Int} (h : s < n) (e : j = (s : Int)) : ixN n j = some s := by
  subst e
  unfold ixN
  rw [if_pos (by lia), if_pos (by lia)]; simp
theorem rep_zero (p k : Nat) (hp : 0 < p) : (List.replicate k [V.int 0]).flatten = rowL p k fun _ => 0 := by
  induction k with
  | zero => rfl
  | succ k ih =>
    rw [List.replicate_succ', List.flatten_append, ih]
    unfold rowL
    rw [List.range_succ, List.map_append]
    simp
section
variable {P : Program} {w : World} {mg : Str → Option Value} {base : Heap} {f : Addr} {fd : FuncData}
/-! product -/
inductive sp_product (K : PySem.W.Frag) (vs : List V) (H : Hp) (Q : VK) (E : XK) : Prop
  | mk (a : Addr) (p m t x y : Nat) (c1 : vs = [.ref a, .int x, .int y]) (c2 : Fld K H a p m t) (c3 : 2 ≤ p) (c4 : 1 ≤ m) (c5 : p ^ m ≤ 64) (c6 : t < p ^ m) (c7 : x < p ^ m) (c8 : y < p ^ m) (c9 : ∀ (r : Nat) H', Same H H' → r < p ^ m → (∀ i, i < m → dg p i r = tn m (fun i => dg p i t) m (fun i => dg p i x) (fun i => dg p i y) i % p) → Q (.int r) H') : sp_product K vs H Q E
theorem digL_get {p m x i : Nat} (h : i < m) : (digL p m x)[i]? = some (Vn (dg p i x)) := by
  unfold digL; rw [List.getElem?_map, List.getElem?_range h]; rfl
theorem sx_set {l : Addr} {H H' : Hp} {o : HO} (h : SameX l l H H') : SameX l l H (upd H' l o) := fun b u n1 n2 e => by rw [upd_ne n1]; exact h b u n1 n2 e
theorem sx_new {l p : Addr} {H H' : Hp} {o : HO} (h : SameX l l H H') (hp : H' p = none) : SameX l l H (upd H' p o) := h.trans (Same.x (same_new hp o))
theorem sx_same {l : Addr} {H H' : Hp} (h : SameX l l H H') (hl : H l = none) : Same H H' := fun b o e => h b o (ne_of_none e hl) (ne_of_none e hl) e
theorem sc__law_product : FnScope ["_law_field_here", "_law_one", "_law_other", "_law_p", "_law_m", "_law_top", "_law_row", "_law_j", "_law_digit", "_law_k", "_law_by", "_law_place", "_law_at"] ["_law_field_here", "_law_one", "_law_other"] (defScope s__law_product) := ⟨rfl, rfl, rfl, by decide +kernel, rfl, by decide +kernel, by decide +kernel⟩
theorem ok_product (B : Bl mg) (h__law_digits : Has P w K mg base 1 "_law_digits" ["_law_field_here", "_law_thing"] (sp_digits K)) (h__law_number : Has P w K mg base 1 "_law_number" ["_law_field_here", "_law_digits_here"] (sp_number K)) (F : Fun K "_law_product" "_law_product" s__law_product f fd) : FnOk P w K mg base CX0 2 f fd ["_law_field_here", "_law_one", "_law_other"] (sp_product K) := by
  refine F.ok sc__law_product (fun vs H Q E h => ?_) (fun cdv A outer s H vs Q E hr h => ?_)
  · obtain ⟨a, p, m, t, x, y, rfl, _⟩ := h; rfl
  obtain ⟨a, p, m, t, x, y, rfl, hF, hp, hm, hpm, ht, hx, hy, q⟩ := h
  have hp2 := p_le hp hm hpm
  have hm6 := m_le hp hpm
  refine ⟨_, (((pv 0)≈((3&&&sc__law_product.nd)∩((4&&&sc__law_product.nd)∩((5&&&sc__law_product.nd)∩pgs_nil))))<=<(6<|>sc__law_product.nd<|>(op_rep|||(@pe_lst _ _ _ _ (pe_int>=>pa_nil))|||(op_sub|||(op_mul|||pe_int|||(pv 4))|||pe_int)))<=<((@pi_enum _ _ _ _ _ _ _ _ rfl (B "enumerate" (by decide)) ((h__law_digits<$>((pv 0)>=>(pv 1)>=>pa_nil))>=>pa_nil) (by rfl))<&>((@pg_tup _ _ _ _ _ _ rfl ((7&&&sc__law_product.nd)∩((8&&&sc__law_product.nd)∩pgs_nil)) (by rfl) (by rfl)),(~~~((@pi_enum _ _ _ _ _ _ _ _ rfl (B "enumerate" (by decide)) ((h__law_digits<$>((pv 0)>=>(pv 2)>=>pa_nil))>=>pa_nil) (by rfl))<&>((@pg_tup _ _ _ _ _ _ rfl ((9&&&sc__law_product.nd)∩((10&&&sc__law_product.nd)∩pgs_nil)) (by rfl) (by rfl)),(~~~(@ps_asg _ _ _ _ _ _ (op_mod|||(op_add|||(ix_list<<<(pv 6)<<<(op_add|||(pv 7)|||(pv 9)))|||(op_mul|||(pv 8)|||(pv 10)))|||(pv 3)) (@pg_sub _ _ _ _ _ _ _ (pv 6) (op_add|||(pv 7)|||(pv 9)) set_list (by intro _; rfl)) (by rfl) (by rfl) (by rfl))))))))<=<((@pi_down _ _ _ _ _ _ _ _ rfl (B "range" (by decide)) ((op_sub|||(op_mul|||pe_int|||(pv 4))|||pe_int)>=>(op_sub|||(pv 4)|||pe_int)>=>(@pe_un _ _ _ _ _ _ un_neg pe_int)>=>pa_nil) (by rfl) (by rfl))<&>((11&&&sc__law_product.nd),(~~~((@pi_enum _ _ _ _ _ _ _ _ rfl (B "enumerate" (by decide)) ((h__law_digits<$>((pv 0)>=>(pv 5)>=>pa_nil))>=>pa_nil) (by rfl))<&>((@pg_tup _ _ _ _ _ _ rfl ((9&&&sc__law_product.nd)∩((8&&&sc__law_product.nd)∩pgs_nil)) (by rfl) (by rfl)),((12<|>sc__law_product.nd<|>(op_add|||(op_sub|||(pv 11)|||(pv 4))|||(pv 9)))<=<(~~~(@ps_asg _ _ _ _ _ _ (op_mod|||(op_add|||(ix_list<<<(pv 6)<<<(pv 12))|||(op_mul|||(ix_list<<<(pv 6)<<<(pv 11))|||(pv 8)))|||(pv 3)) (@pg_sub _ _ _ _ _ _ _ (pv 6) (pv 12) set_list (by intro _; rfl)) (by rfl) (by rfl) (by rfl)))))))))<=<(~~~((h__law_number<$>((pv 0)>=>(@pe_slice _ _ _ _ _ _ _ _ _ _ sl_list (pv 6) po_none (@po_some _ _ _ (pv 4)))>=>pa_nil))⁻¹))), ?_⟩
  try dsimp only [cxOf]
  refine ⟨_, rfl, a, _, rfl, hF, rfl, _, _, rfl, _, _, rfl, _, _, rfl, rfl, ?_⟩
  refine ⟨szl 1, fun l0 hl0 => ?_⟩
  refine ⟨_, rfl, _, _, rfl, rfl, .inl ⟨by decide, by decide⟩, ?_⟩
  refine ⟨_, _, rfl, rfl, ?_⟩
  have e21 : (2 * (m : Int) - 1).toNat = 2 * m - 1 := by lia
  refine ⟨l0, _, _, rfl, rfl, upd_same, by show -(2 ^ 63) ≤ 2 * (m : Int) - 1; lia, by show 2 * (m : Int) - 1 < 2 ^ 63; lia, ?_, fun l hl => ?_⟩
  · show 1 * (2 * (m : Int) - 1).toNat ≤ sizeLine
    rw [e21]; exact szl _
  dsimp only
  rw [e21, rep_zero p _ (by lia)]
  have hlH : H l = none := (same_new hl0 (.lst [.int 0])).free hl
  -- the products
  let I1 : St → Hp → Prop := fun σ H' => Ex6 fun s7 s8 s9 s10 s11 s12 => An3 (σ = [some (.ref a), some (Vn x), some (Vn y), some (Vn p), some (Vn m), some (Vn t), some (.ref l), s7, s8, s9, s10, s11, s12]) (SameX l l H H') (H' l = some (.lst (rowL p (2 * m - 1) (convF m (fun i => dg p i x) fun i => dg p i y))))
  refine seq_cut I1 ?_ ?_
  · rintro σ H' ⟨s7, s8, s9, s10, s11, s12, rfl, sx, hrow⟩
    let I2 : St → Hp → Prop := fun σ H' => Ex6 fun s7 s8 s9 s10 s11 s12 => An3 (σ = [some (.ref a), some (Vn x), some (Vn y), some (Vn p), some (Vn m), some (Vn t), some (.ref l), s7, s8, s9, s10, s11, s12]) (SameX l l H H') (∃ c : Nat → Nat, H' l = some (.lst (rowL p (2 * m - 1) c)) ∧ ∀ i, i < m → c i = tn m (fun i => dg p i t) m (fun i => dg p i x) (fun i => dg p i y) i)
    refine seq_cut I2 ?_ ?_
    · rintro σ H' ⟨s7, s8, s9, s10, s11, s12, rfl, sx, c, hrow, hc⟩
      refine ⟨_, rfl, _, rfl, _, rfl, _, rfl, l, _, rfl, SqL.of hrow, fun l2 hl2 => ?_⟩
      have sm2 : Same H (upd H' l2 (.lst (cutV (rowL p (2 * m - 1) c) none (some (m : Int))))) := (sx_same sx hlH).trans (same_new hl2 _)
      refine ⟨a, l2, p, m, t, (List.range m).map fun i => c i % p, rfl, Same.tup sm2 hF, hp, hp2, ?_, fun H3 s3 => ?_⟩
      · refine SqL.of ?_
        rw [upd_same]
        congr 2
        unfold cutV
        rw [HT.sIx_none, show HT.sIx (rowL p (2 * m - 1) c).length (rowL p (2 * m - 1) c).length (some (m : Int)) = min m (rowL p (2 * m - 1) c).length from HT.sIx_nat _ _ m, rowL_len, List.drop_zero, show min m (2 * m - 1) - 0 = m by lia]
        unfold rowL
        rw [← List.map_take, List.take_range, List.map_map, show min m (2 * m - 1) = m by lia]
        rfl
      · have hds : ∀ d ∈ (List.range m).map (fun i => c i % p), d < p := fun d hd => by
          obtain ⟨i, _, rfl⟩ := List.mem_map.mp hd
          exact Nat.mod_lt _ (by lia)
        have hg : ∀ i, ((List.range m).map fun i => c i % p).getD i 0 = if i < m then c i % p else 0 := fun i => by
          by_cases hi : i < m
          · rw [if_pos hi, List.getD, List.getElem?_map, List.getElem?_range hi]; rfl
          · rw [if_neg hi, List.getD, List.getElem?_eq_none (by simpa using hi)]; rfl
        refine q _ _ (sm2.trans s3) (lt_of_zero hp fun i hi => ?_) fun i hi => ?_
        · rw [num_dg hp _ hds, hg, if_neg (by lia)]
        · rw [num_dg hp _ hds, hg, if_pos hi, hc i hi]
    · intro D' _ _ _ hD
      refine ⟨_, rfl, _, _, rfl, rfl, .inl ⟨by decide, by decide⟩, ?_⟩
      refine ⟨_, _, rfl, rfl, ?_⟩
      refine ⟨_, rfl, _, _, rfl, rfl, ?_⟩
      refine ⟨_, rfl, ?_⟩
      refine ⟨2 * (m : Int) - 2, (m : Int) - 1, rfl, ⟨by lia, by lia, by lia, by lia⟩, ?_⟩
      let I3 : Nat → St → Hp → Prop := fun i σ H' => Ex6 fun s7 s8 s9 s10 s11 s12 => An3 (σ = [some (.ref a), some (Vn x), some (Vn y), some (Vn p), some (Vn m), some (Vn t), some (.ref l), s7, s8, s9, s10, s11, s12]) (SameX l l H H') (∃ c : Nat → Nat, H' l = some (.lst (rowL p (2 * m - 1) c)) ∧ redF m (fun i => dg p i t) (m - 1 - i) c = redF m (fun i => dg p i t) (m - 1) (convF m (fun i => dg p i x) fun i => dg p i y))
      refine for_any seqs_down I3 ⟨s7, s8, s9, s10, s11, s12, rfl, sx, _, hrow, rfl⟩ (fun _ _ _ _ _ => trivial) ?_ ?_
      · rintro i v σ H' H'' hi ⟨s7, s8, s9, s10, s11, s12, rfl, sx, c, hrow, hred⟩ ⟨rfl, rfl⟩
        obtain ⟨j, hj⟩ : ∃ j, m - 1 - i = j + 1 := ⟨m - 1 - i - 1, by lia⟩
        have eq : V.int (2 * (m : Int) - 2 - (i : Int)) = Vn (m + j) := by show V.int _ = V.int _; congr 1; lia
        have hq : m + j < 2 * m - 1 := by lia
        dsimp only [gName]
        rw [eq]
        refine ⟨_, rfl, _, rfl, a, p, m, t, t, rfl, Same.tup (sx_same sx hlH) hF, hp, hp2, by lia, fun b2 H2 hb2' s2 e2 => ?_⟩
        have nb2 : b2 ≠ l := fun e => by rw [e, hrow] at hb2'; cases hb2'
        refine ⟨false, b2, rfl, ⟨_, SqL.of e2⟩, ?_⟩
        let I4 : Nat → St → Hp → Prop := fun k σ H' => Ex5 fun s7 s8 s9 s10 s12 => An4 (σ = [some (.ref a), some (Vn x), some (Vn y), some (Vn p), some (Vn m), some (Vn t), some (.ref l), s7, s8, s9, s10, some (Vn (m + j)), s12]) (SameX l l H H') (H' b2 = some (.lst (digL p m t))) (H' l = some (.lst (rowL p (2 * m - 1) fun i => c i + if j ≤ i ∧ i < j + k then c (m + j) * dg p (i - j) t else 0)))
        refine for_any (seqs_enum (K := K) (b := false) (l := b2) (xs := digL p m t)) I4 ⟨s7, s8, s9, s10, s12, rfl, sx.trans (Same.x s2), e2, ?_⟩ ?_ ?_ ?_
        · rw [s2 _ _ hrow]
          congr 2
          refine rowL_congr fun i _ => ?_
          rw [if_neg (by lia)]; rfl
        · rintro i σ H' _ ⟨s7, s8, s9, s10, s12, rfl, _, h, _⟩; exact SqL.of h
        · rintro k v σ H' H'' hk ⟨s7, s8, s9, s10, s12, rfl, sx, hc, hrow⟩ ⟨T, u, rfl, eu, hT, rfl⟩
          rw [digL_len] at hk
          rw [digL_get hk] at eu; cases eu
          refine ⟨T, _, rfl, SqT.of upd_same, rfl, _, _, rfl, _, _, rfl, rfl, ?_⟩
          have sx3 : SameX l l H (upd H' T (.tup [.int k, Vn (dg p k t)])) := sx_new sx hT
          have hc3 : (upd H' T (.tup [.int k, Vn (dg p k t)])) b2 = some (.lst (digL p m t)) := by rw [upd_ne (ne_of_none hc hT)]; exact hc
          have hr3 := (upd_ne (o := .tup [.int k, Vn (dg p k t)]) (ne_of_none hrow hT)).trans hrow
          generalize upd H' T (.tup [.int k, Vn (dg p k t)]) = G at sx3 hc3 hr3 ⊢
          have hjk : j + k < 2 * m - 1 := by lia
          have hmp : ∀ z, z % p < p := fun z => Nat.mod_lt _ (by lia)
          refine ⟨_, rfl, _, rfl, _, _, rfl, rfl, ?_⟩
          refine ⟨_, rfl, _, _, rfl, rfl, ?_⟩
          have eat : V.int (((m + j : Nat) : Int) - (m : Int) + ((k : Nat) : Int)) = Vn (j + k) := by show V.int _ = V.int _; congr 1; lia
          dsimp only [gName]
          rw [eat]
          refine ⟨_, rfl, _, rfl, l, _, _, _, rfl, rfl, SqL.of hr3, rowL_at _ hjk rfl, ?_⟩
          refine ⟨_, rfl, _, rfl, l, _, _, _, rfl, rfl, SqL.of hr3, rowL_at _ hq rfl, ?_⟩
          have hmq := hmp (c (m + j) + if j ≤ m + j ∧ m + j < j + k then c (m + j) * dg p (m + j - j) t else 0)
          refine ⟨_, rfl, _, _, rfl, rfl, .inl ⟨by lia, by lia⟩, ?_⟩
          refine ⟨_, _, rfl, rfl, ?_⟩
          refine ⟨_, rfl, _, _, rfl, rfl, by show (0 : Int) < (p : Int); lia, ?_⟩
          refine ⟨_, rfl, _, rfl, ?_⟩
          refine ⟨l, _, _, j + k, rfl, rfl, hr3, ixN_nat (by rw [rowL_len]; exact hjk) rfl, ?_⟩
          refine ⟨s7, _, _, s10, _, rfl, sx_set sx3, by rw [upd_ne nb2]; exact hc3, ?_⟩
          rw [upd_same]
          congr 2
          refine row_add (v := (c (m + j) + if j ≤ m + j ∧ m + j < j + k then c (m + j) * dg p (m + j - j) t else 0) % p * dg p k t) hjk fun i hi => ?_
          by_cases e : i = j + k
          · subst e
            rw [if_pos rfl, if_pos (by lia), if_neg (by lia), if_neg (by lia), Nat.add_zero, Nat.add_zero, show j + k - j = k by lia, Nat.mod_add_mod]
            exact add_mod2 rfl (mul_mod2 (Nat.mod_mod _ _).symm rfl)
          · rw [if_neg e]
            congr 2
            by_cases h2 : j ≤ i ∧ i < j + k
            · rw [if_pos h2, if_pos (by lia)]
            · rw [if_neg h2, if_neg (by lia)]
        · rintro σ H' ⟨s7, s8, s9, s10, s12, rfl, sx, hc, hrow⟩
          refine ⟨s7, s8, s9, s10, _, s12, rfl, sx, _, hrow, ?_⟩
          rw [← hred, hj, show m - 1 - (i + 1) = j by lia]
          show _ = redF m (fun i => dg p i t) j (stepF m (fun i => dg p i t) (m + j) c)
          congr 1
          funext z
          unfold stepF
          rw [digL_len, show m + j - m = j by lia]
          congr 1
          by_cases h2 : j ≤ z ∧ z < j + m
          · rw [if_pos h2, if_pos (by lia)]
          · rw [if_neg h2, if_neg (by lia)]
      · rintro σ H' ⟨s7, s8, s9, s10, s11, s12, rfl, sx, c, hrow, hred⟩
        refine hD _ _ ⟨s7, s8, s9, s10, s11, s12, rfl, sx, c, hrow, fun i hi => ?_⟩
        rw [show m - 1 - (2 * (m : Int) - 2 - ((m : Int) - 1)).toNat = 0 by lia] at hred
        have e := congrFun hred i
        have e2 := red_conv (t := fun i => dg p i t) hm (m - 1) (fun i => dg p i x) (fun i => dg p i y) (fun z hz => dg_of_lt hp hy hz) i hi
        rw [show m - 1 + 1 = m by lia] at e2
        exact e.trans e2
  · intro D' _ _ _ hD
    refine ⟨_, rfl, _, rfl, a, p, m, t, x, rfl, Same.tup ((same_new hl0 _).trans (same_new hl _)) hF, hp, hp2, by lia, fun b1 H1 hb1 s1 e1 => ?_⟩
    have hl1 : H1 l = some (.lst (rowL p (2 * m - 1) fun _ => 0)) := s1 _ _ upd_same
    have nb1 : b1 ≠ l := fun e => by rw [e, upd_same] at hb1; cases hb1
    have sx1 : SameX l l H H1 := Same.x (((same_new hl0 _).trans (same_new hl _)).trans s1)
    refine ⟨false, b1, rfl, ⟨_, SqL.of e1⟩, ?_⟩
    let I5 : Nat → St → Hp → Prop := fun j σ H' => Ex6 fun s7 s8 s9 s10 s11 s12 => An4 (σ = [some (.ref a), some (Vn x), some (Vn y), some (Vn p), some (Vn m), some (Vn t), some (.ref l), s7, s8, s9, s10, s11, s12]) (SameX l l H H') (H' b1 = some (.lst (digL p m x))) (H' l = some (.lst (rowL p (2 * m - 1) fun i => sumN j fun j' => dg p j' x * shN j' (fun i => dg p i y) i)))
    refine for_any (seqs_enum (K := K) (b := false) (l := b1) (xs := digL p m x)) I5 ⟨none, none, none, none, none, none, rfl, sx1, e1, hl1⟩ ?_ ?_ ?_
    · rintro i σ H' _ ⟨s7, s8, s9, s10, s11, s12, rfl, _, h, _⟩; exact SqL.of h
    · rintro j v σ H' H'' hj ⟨s7, s8, s9, s10, s11, s12, rfl, sx, hb, hrow⟩ ⟨T, u, rfl, eu, hT, rfl⟩
      rw [digL_len] at hj
      rw [digL_get hj] at eu; cases eu
      refine ⟨T, _, rfl, SqT.of upd_same, rfl, _, _, rfl, _, _, rfl, rfl, ?_⟩
      have sx2 : SameX l l H (upd H' T (.tup [.int j, Vn (dg p j x)])) := sx_new sx hT
      have hb2 : (upd H' T (.tup [.int j, Vn (dg p j x)])) b1 = some (.lst (digL p m x)) := by rw [upd_ne (ne_of_none hb hT)]; exact hb
      have hr2 : (upd H' T (.tup [.int j, Vn (dg p j x)])) l = some (.lst (rowL p (2 * m - 1) fun i => sumN j fun j' => dg p j' x * shN j' (fun i => dg p i y) i)) := by rw [upd_ne (ne_of_none hrow hT)]; exact hrow
      generalize upd H' T (.tup [.int j, Vn (dg p j x)]) = G at sx2 hb2 hr2 ⊢
      refine ⟨_, rfl, _, rfl, a, p, m, t, y, rfl, Same.tup (sx_same sx2 hlH) hF, hp, hp2, by lia, fun b2 H2 hb2' s2 e2 => ?_⟩
      have nb2 : b2 ≠ l := fun e => by rw [e, hr2] at hb2'; cases hb2'
      refine ⟨false, b2, rfl, ⟨_, SqL.of e2⟩, ?_⟩
      let I6 : Nat → St → Hp → Prop := fun k σ H' => Ex4 fun s9 s10 s11 s12 => An5 (σ = [some (.ref a), some (Vn x), some (Vn y), some (Vn p), some (Vn m), some (Vn t), some (.ref l), some (Vn j), some (Vn (dg p j x)), s9, s10, s11, s12]) (SameX l l H H') (H' b1 = some (.lst (digL p m x))) (H' b2 = some (.lst (digL p m y))) (H' l = some (.lst (rowL p (2 * m - 1) fun i => sumN j (fun j' => dg p j' x * shN j' (fun i => dg p i y) i) + if j ≤ i ∧ i < j + k then dg p j x * dg p (i - j) y else 0)))
      refine for_any (seqs_enum (K := K) (b := false) (l := b2) (xs := digL p m y)) I6 ⟨s9, s10, s11, s12, rfl, sx2.trans (Same.x s2), s2 _ _ hb2, e2, ?_⟩ ?_ ?_ ?_
      · rw [s2 _ _ hr2]
        congr 2
        refine rowL_congr fun i _ => ?_
        rw [if_neg (by lia)]; rfl
      · rintro i σ H' _ ⟨s9, s10, s11, s12, rfl, _, _, h, _⟩; exact SqL.of h
      · rintro k v σ H' H'' hk ⟨s9, s10, s11, s12, rfl, sx, hb, hc, hrow⟩ ⟨T, u, rfl, eu, hT, rfl⟩
        rw [digL_len] at hk
        rw [digL_get hk] at eu; cases eu
        refine ⟨T, _, rfl, SqT.of upd_same, rfl, _, _, rfl, _, _, rfl, rfl, ?_⟩
        have sx3 : SameX l l H (upd H' T (.tup [.int k, Vn (dg p k y)])) := sx_new sx hT
        have hb3 : (upd H' T (.tup [.int k, Vn (dg p k y)])) b1 = some (.lst (digL p m x)) := by rw [upd_ne (ne_of_none hb hT)]; exact hb
        have hc3 : (upd H' T (.tup [.int k, Vn (dg p k y)])) b2 = some (.lst (digL p m y)) := by rw [upd_ne (ne_of_none hc hT)]; exact hc
        have hr3 := (upd_ne (o := .tup [.int k, Vn (dg p k y)]) (ne_of_none hrow hT)).trans hrow
        generalize upd H' T (.tup [.int k, Vn (dg p k y)]) = G at sx3 hb3 hc3 hr3 ⊢
        have d1 := dg_lt hp j x
        have hjk : j + k < 2 * m - 1 := by lia
        refine ⟨_, rfl, _, rfl, _, rfl, _, _, rfl, rfl, ?_⟩
        refine ⟨l, _, _, _, rfl, rfl, SqL.of hr3, rowL_at _ hjk rfl, ?_⟩
        refine ⟨_, rfl, _, rfl, _, _, rfl, rfl, .inl ⟨by show -(2 ^ 64 : Int) < ((dg p j x : Nat) : Int); lia, by show ((dg p j x : Nat) : Int) < 2 ^ 64; lia⟩, ?_⟩
        refine ⟨_, _, rfl, rfl, ?_⟩
        refine ⟨_, rfl, _, _, rfl, rfl, by show (0 : Int) < (p : Int); lia, ?_⟩
        refine ⟨_, rfl, _, rfl, _, rfl, _, _, rfl, rfl, ?_⟩
        refine ⟨l, _, _, j + k, rfl, rfl, hr3, ixN_nat (by rw [rowL_len]; exact hjk) rfl, ?_⟩
        refine ⟨_, _, s11, s12, rfl, sx_set sx3, by rw [upd_ne nb1]; exact hb3, by rw [upd_ne nb2]; exact hc3, ?_⟩
        rw [upd_same]
        congr 2
        refine row_add (v := dg p j x * dg p k y) hjk fun i hi => ?_
        by_cases e : i = j + k
        · subst e
          rw [if_pos rfl, if_pos (by lia), if_neg (by lia), Nat.add_zero, show j + k - j = k by lia, Nat.mod_add_mod]
        · rw [if_neg e]
          congr 2
          by_cases h2 : j ≤ i ∧ i < j + k
          · rw [if_pos h2, if_pos (by lia)]
          · rw [if_neg h2, if_neg (by lia)]
      · rintro σ H' ⟨s9, s10, s11, s12, rfl, sx, hb, hc, hrow⟩
        refine ⟨_, _, s9, s10, s11, s12, rfl, sx, hb, ?_⟩
        rw [hrow, digL_len]
        congr 2
        refine rowL_congr fun i _ => ?_
        rw [sumN]
        congr 2
        unfold shN
        by_cases h1 : j ≤ i
        · rw [if_pos h1]
          by_cases h2 : i < j + m
          · rw [if_pos ⟨h1, h2⟩]
          · rw [if_neg (by lia)]; show 0 = dg p j x * dg p (i - j) y; rw [dg_of_lt hp hy (by lia), Nat.mul_zero]
        · rw [if_neg h1, if_neg (by lia), Nat.mul_zero]
    · rintro σ H' ⟨s7, s8, s9, s10, s11, s12, rfl, sx, hb, hrow⟩
      refine hD _ _ ⟨s7, s8, s9, s10, s11, s12, rfl, sx, ?_⟩
      rw [hrow, digL_len]
      congr 2
      exact rowL_congr fun i _ => by rw [convF_sum]
end
end My

end
section
set_option Elab.async false
set_option linter.all false
set_option maxRecDepth 100000
set_option maxHeartbeats 4000000
namespace My
open PySem L2 Dg
section
variable {P : Program} {w : World} {mg : Str → Option Value} {base : Heap} {f : Addr} {fd : FuncData}
theorem of_nn {b : Bool} (h : ¬ (!b) = true) : b = true := by cases b <;> simp_all
/-! is_good: where it says True there are no two things but 0 with product 0, the one of few digits -/
inductive sp_good (K : PySem.W.Frag) (vs : List V) (H : Hp) (Q : VK) (E : XK) : Prop
  | mk (a : Addr) (p m t : Nat) (c1 : vs = [.ref a]) (c2 : Fld K H a p m t) (c3 : 2 ≤ p) (c4 : 1 ≤ m) (c5 : p ^ m ≤ 64) (c6 : t < p ^ m) (c7 : ∀ (b : Bool) H', Same H H' → (b = true → ∀ x y, 0 < x → x < p ^ m → x < p ^ (m / 2 + 1) → 0 < y → y < p ^ m → mul p m t x y ≠ 0) → Q (.bl b) H') : sp_good K vs H Q E
theorem sc__law_is_good : FnScope ["_law_field_here", "_law_p", "_law_m", "_law_top", "_law_many", "_law_one"] ["_law_field_here"] (defScope s__law_is_good) := ⟨rfl, rfl, rfl, by decide +kernel, rfl, by decide +kernel, by decide +kernel⟩
theorem ok_good (B : Bl mg) (h__law_raised : Has P w K mg base 1 "_law_raised" ["_law_one", "_law_many"] sp_number_power) (h__law_product : Has P w K mg base 2 "_law_product" ["_law_field_here", "_law_one", "_law_other"] (sp_product K)) (F : Fun K "_law_is_good" "_law_is_good" s__law_is_good f fd) : FnOk P w K mg base CX0 3 f fd ["_law_field_here"] (sp_good K) := by
  refine F.ok sc__law_is_good (fun vs H Q E h => ?_) (fun cdv A outer s H vs Q E hr h => ?_)
  · obtain ⟨a, p, m, t, rfl, _⟩ := h; rfl
  obtain ⟨a, p, m, t, rfl, hF, hp, hm, hpm, ht, q⟩ := h
  have hp2 := p_le hp hm hpm
  have hm6 := m_le hp hpm
  have hpos : 0 < p ^ m := Nat.pow_pos (by lia)
  refine ⟨_, (((pv 0)≈((1&&&sc__law_is_good.nd)∩((2&&&sc__law_is_good.nd)∩((3&&&sc__law_is_good.nd)∩pgs_nil))))<=<(4<|>sc__law_is_good.nd<|>(h__law_raised<$>((pv 1)>=>(pv 2)>=>pa_nil)))<=<((@pi_range2 _ _ _ _ _ _ _ rfl (B "range" (by decide)) (pe_int>=>((call_min2 rfl)>>>("min",boot_bi_min,((pv 4)>=>(h__law_raised<$>((pv 1)>=>(op_add|||(op_fdv|||(pv 2)|||pe_int)|||pe_int)>=>pa_nil))>=>pa_nil)))>=>pa_nil) (by rfl) (by rfl))<&>((5&&&sc__law_is_good.nd),(~~~((@pt_not _ _ _ _ (@pt_val _ _ _ ((call_all rfl)>>>("all",PyProof.Rows.boot_all,((["_law_other"]⊆(["_law_field_here", "_law_one"],[0, 5],["_law_field_here", "_law_p", "_law_m", "_law_top", "_law_many", "_law_one"],s__law_is_good,(@pi_range2 _ _ _ _ _ _ _ rfl (B "range" (by decide)) (pe_int>=>(pv 4)>=>pa_nil) (by rfl) (by rfl)),(0⊇["_law_other", "_law_field_here", "_law_one"]),pifs_nil,(@pe_cmpR _ _ _ _ _ _ _ _ op_gt (h__law_product<$>((pv 1)>=>(pv 2)>=>(pv 0)>=>pa_nil)) pe_int (nomark _))))>=>pa_nil))) (by intro _; rfl)))*>((~~~(pe_bl⁻¹)),pss_nil)))))<=<(~~~(pe_bl⁻¹))), ?_⟩
  try dsimp only [cxOf]
  refine ⟨_, rfl, a, _, rfl, hF, rfl, _, _, rfl, _, _, rfl, _, _, rfl, rfl, ?_⟩
  refine ⟨_, rfl, _, rfl, p, m, rfl, hp2, by lia, ?_⟩
  refine ⟨_, rfl, _, rfl, _, rfl, _, _, rfl, rfl, ⟨by show (0 : Int) < 2; decide, by show (2 : Int) < 2 ^ 64; decide⟩, ?_⟩
  refine ⟨_, _, rfl, rfl, ?_⟩
  refine ⟨p, m / 2 + 1, rfl, hp2, by lia, ?_⟩
  refine ⟨_, _, rfl, ?_⟩
  generalize hj : (if (((p ^ (m / 2 + 1) : Nat) : Int) < ((p ^ m : Nat) : Int)) then ((p ^ (m / 2 + 1) : Nat) : Int) else ((p ^ m : Nat) : Int)) = j
  have hj2 : 0 ≤ j ∧ j ≤ ((p ^ m : Nat) : Int) ∧ ∀ x : Nat, x < p ^ m → x < p ^ (m / 2 + 1) → (x : Int) < j := by
    rw [← hj]; split
    · exact ⟨by lia, by lia, fun x h1 h2 => by lia⟩
    · exact ⟨by lia, by lia, fun x h1 h2 => by lia⟩
  refine ⟨1, j, rfl, ⟨by lia, by lia, by lia, by lia⟩, ?_⟩
  let I1 : Nat → St → Hp → Prop := fun i σ H' => An3 (Same H H') (∀ x y, 0 < x → x < 1 + i → 0 < y → y < p ^ m → mul p m t x y ≠ 0) (∃ s, σ = [some (.ref a), some (Vn p), some (Vn m), some (Vn t), some (Vn (p ^ m)), s])
  refine for_range I1 ⟨Same.refl _, fun x y h1 h2 => by lia, none, rfl⟩ ?_ ?_
  · rintro i σ H' hi ⟨sm, hno, s, rfl⟩
    refine ⟨_, rfl, 1, ((p ^ m : Nat) : Int), rfl, ⟨by lia, by lia, by lia, by lia⟩, ?_⟩
    refine comp_any seqs_range (fun k acc H1 => Same H H1 ∧ acc = ((List.range k).map fun j => decide (0 < mul p m t (1 + i) (1 + j))).map V.bl) ⟨sm, rfl⟩ (fun _ _ _ _ _ => trivial) ?_ ?_ ?_
    · rintro k acc H1 hk ⟨_, rfl⟩
      rw [List.length_map, List.length_map, List.length_range]; exact Nat.lt_of_le_of_lt (show k ≤ 1000 by lia) (small1000 (Nat.le_refl _))
    · rintro k acc x H1 H2 hk ⟨sm1, rfl⟩ ⟨rfl, rfl⟩
      refine ⟨_, rfl, _, rfl, _, rfl, a, p, m, t, 1 + i, 1 + k, rfl, Same.tup sm1 hF, hp, hm, hpm, ht, by lia, by lia, fun r H3 s3 br hr => ?_⟩
      have e := mul_of hp hm br hr
      subst e
      refine ⟨_, _, rfl, rfl, sm1.trans s3, ?_⟩
      rw [List.range_succ, List.map_append, List.map_append]
      refine congrArg (_ ++ [V.bl ·]) ?_
      show decide ((0 : Int) < ((mul p m t (1 + i) (1 + k) : Nat) : Int)) = decide (0 < mul p m t (1 + i) (1 + k))
      exact decide_eq_decide.mpr (by lia)
    · rintro acc H1 ⟨sm1, rfl⟩ D hD
      refine ⟨D, _, rfl, SqL.of upd_same, _, rfl, ?_⟩
      refine ite2 (fun c => ?_) (fun c => ?_)
      · exact q _ _ (sm1.trans (same_new hD _)) (fun h => by cases h)
      · refine ⟨sm1.trans (same_new hD _), fun x y h1 h2 h3 h4 => ?_, _, rfl⟩
        by_cases hx : x < 1 + i
        · exact hno x y h1 hx h3 h4
        · have c2 : ((List.range (((p ^ m : Nat) : Int) - 1).toNat).map fun j => decide (0 < mul p m t (1 + i) (1 + j))).all id = true := of_nn c
          rw [List.all_eq_true] at c2
          have c3 := c2 (decide (0 < mul p m t (1 + i) (1 + (y - 1)))) (List.mem_map.mpr ⟨y - 1, List.mem_range.mpr (by lia), rfl⟩)
          have c4 : 0 < mul p m t (1 + i) (1 + (y - 1)) := of_decide_eq_true c3
          rw [show 1 + i = x by lia, show 1 + (y - 1) = y by lia] at c4
          lia
  · rintro σ H' ⟨sm, hno, s, rfl⟩
    refine q _ _ sm fun _ x y h1 h2 h3 h4 h5 => hno x y h1 ?_ h4 h5
    have := hj2.2.2 x h2 h3
    lia
end
end My

end
section
set_option Elab.async false
set_option linter.all false
set_option maxRecDepth 100000
set_option maxHeartbeats 4000000
namespace My
open PySem L2 Dg
theorem menu_one {p m : Nat} (h : (p, m) ∈ Dg.menu) : (p, 1) ∈ Dg.menu := (by decide +kernel : ∀ c ∈ Dg.menu, (c.1, 1) ∈ Dg.menu) (p, m) h
/-! a list of pairs -/
noncomputable def menuT0 : List (Int × Int) → TA
  | [] => tNil
  | (p, m) :: r => tCons (tTup (tCons (tC (.int p)) (tCons (tC (.int m)) tNil))) (menuT0 r)
@[irreducible] noncomputable def menuT (ps : List (Int × Int)) : TA := menuT0 ps
theorem menuT_eq (ps : List (Int × Int)) : menuT ps = menuT0 ps := by unfold menuT; rfl
theorem menuT_nil : menuT [] = tNil := by rw [menuT_eq]; rfl
theorem menuT_cons {p m : Int} {r : List (Int × Int)} : menuT ((p, m) :: r) = tCons (tTup (tCons (tC (.int p)) (tCons (tC (.int m)) tNil))) (menuT r) := by rw [menuT_eq, menuT_eq]; rfl
section
variable {X : Cx}
theorem pa_menu_nil : PA X [] (menuT []) := by rw [menuT_nil]; exact pa_nil
theorem pa_menu_cons {p m : Int} {k1 k2 c : Nat} {p1 p2 p3 : Pos} {es : List Expr} {r : List (Int × Int)} (h : PA X es (menuT r)) : PA X (.Tuple [.Constant (.int p) k1 p1, .Constant (.int m) k2 p2] c p3 :: es) (menuT ((p, m) :: r)) := by
  rw [menuT_cons]
  exact pa_cons (pe_tup (pa_cons pe_int (pa_cons pe_int pa_nil))) h
end
noncomputable def PairAt (H : Hp) (t : Addr) : Prop := Ex2 fun (p m : Nat) => H t = some (.tup [Vn p, Vn m]) ∧ (p, m) ∈ Dg.menu
theorem PairAt.same {H H' : Hp} {t : Addr} (h : PairAt H t) (s : ∀ o, H t = some o → H' t = some o) : PairAt H' t := by
  obtain ⟨p, m, e, q⟩ := h; exact ⟨p, m, s _ e, q⟩
theorem menu_read : ∀ (ps : List (Int × Int)) (σ : St) (H : Hp) (Q : List V → Hp → Prop), (∀ x ∈ ps, Ex2 fun (p m : Nat) => x = ((p : Int), (m : Int)) ∧ (p, m) ∈ Dg.menu) →
    (∀ (ts : List Addr) H', Same H H' → ts.length = ps.length → (∀ t ∈ ts, H t = none ∧ PairAt H' t) → Q (ts.map V.ref) H') → menuT ps σ H Q
  | [], σ, H, Q, _, q => by rw [menuT_nil]; exact q [] H (Same.refl _) rfl (fun t ht => nomatch ht)
  | (p, m) :: r, σ, H, Q, hp, q => by
    rw [menuT_cons]
    refine ⟨szl 2, fun t ht => ?_⟩
    obtain ⟨p', m', e, b⟩ := hp (p, m) List.mem_cons_self
    cases e
    refine menu_read r σ _ _ (fun x hx => hp x (List.mem_cons_of_mem _ hx)) fun ts H' s hl hts => ?_
    refine q (t :: ts) H' ((same_new ht _).trans s) (by simp [hl]) fun t' ht' => ?_
    rcases List.mem_cons.mp ht' with e | e
    · subst e; exact ⟨ht, p', m', s _ _ upd_same, b⟩
    · exact ⟨(same_new ht _).free (hts t' e).1, (hts t' e).2⟩
/-- a list of pairs at l, apart from the purse -/
structure Menu (a g : Addr) (H : Hp) (l : Addr) (n : Nat) : Prop where
  ex : ∃ ts : List Addr, H l = some (.lst (ts.map V.ref)) ∧ ts.length = n ∧ ∀ t ∈ ts, t ≠ a ∧ t ≠ g ∧ PairAt H t
  na : l ≠ a
  ng : l ≠ g
theorem Menu.x {a g l : Addr} {n : Nat} {H H' : Hp} (h : Menu a g H l n) (s : SameX a g H H') : Menu a g H' l n := by
  obtain ⟨⟨ts, h1, h2, h3⟩, na, ng⟩ := h
  exact ⟨⟨ts, s _ _ na ng h1, h2, fun t ht => ⟨(h3 t ht).1, (h3 t ht).2.1, (h3 t ht).2.2.same fun o e => s _ _ (h3 t ht).1 (h3 t ht).2.1 e⟩⟩, na, ng⟩
section
variable {P : Program} {w : World} {mg : Str → Option Value} {base : Heap} {f : Addr} {fd : FuncData}
noncomputable def primes17 : List Nat := [17, 19, 23, 29, 31, 37, 41, 43, 47, 53, 59]
inductive sp_field (vs : List V) (H : Hp) (Q : VK) (E : XK) : Prop
  | mk (a g : Addr) (c1 : vs = [.ref a]) (c2 : Pu H a g) (c3 : ∀ (r : Addr) (p m t : Nat) H', r ≠ a → r ≠ g → H r = none → H' r = some (.tup [Vn p, Vn m, Vn t]) → Good p m t → Pu H' a g → SameX a g H H' → Q (.ref r) H') : sp_field vs H Q E
theorem sc__law_field : FnScope ["_law_purse_here", "_law_some", "_law_size", "_law_p", "_law_m", "_law_many", "_law_start", "_law_turn", "_law_field_here"] ["_law_purse_here"] (defScope s__law_field) := ⟨rfl, rfl, rfl, by decide +kernel, rfl, by decide +kernel, by decide +kernel⟩
theorem Pu.lt {H : Hp} {a g l : Addr} (h : Pu H a g) (hl : H l = none) : l ≠ a ∧ l ≠ g := by
  obtain ⟨ns, s, t, h1, h2⟩ := h
  exact ⟨Ne.symm (ne_of_none h1 hl), Ne.symm (ne_of_none h2 hl)⟩
theorem ok_field (B : Bl mg) (h__law_pick : Has P w K mg base 1 "_law_pick" ["_law_purse_here", "_law_many"] sp_pick) (h__law_raised : Has P w K mg base 1 "_law_raised" ["_law_one", "_law_many"] sp_number_power) (h__law_is_good : Has P w K mg base 3 "_law_is_good" ["_law_field_here"] (sp_good K)) (F : Fun K "_law_field" "_law_field" s__law_field f fd) : FnOk P w K mg base CX0 4 f fd ["_law_purse_here"] sp_field := by
  refine F.ok sc__law_field (fun vs H Q E h => ?_) (fun cdv A outer s H vs Q E hr h => ?_)
  · obtain ⟨a, g, rfl, _⟩ := h; rfl
  obtain ⟨a, g, rfl, hP, q⟩ := h
  refine ⟨_, ((1<|>sc__law_field.nd<|>(@pe_lst _ _ _ _ (@pa_menu_cons _ _ _ _ _ _ _ _ _ _ _ (@pa_menu_cons _ _ _ _ _ _ _ _ _ _ _ (@pa_menu_cons _ _ _ _ _ _ _ _ _ _ _ (@pa_menu_cons _ _ _ _ _ _ _ _ _ _ _ (@pa_menu_cons _ _ _ _ _ _ _ _ _ _ _ (@pa_menu_cons _ _ _ _ _ _ _ _ _ _ _ (@pa_menu_cons _ _ _ _ _ _ _ _ _ _ _ (@pa_menu_cons _ _ _ _ _ _ _ _ _ _ _ (@pa_menu_cons _ _ _ _ _ _ _ _ _ _ _ (@pa_menu_cons _ _ _ _ _ _ _ _ _ _ _ (@pa_menu_cons _ _ _ _ _ _ _ _ _ _ _ (@pa_menu_cons _ _ _ _ _ _ _ _ _ _ _ pa_menu_nil))))))))))))))<=<(2<|>sc__law_field.nd<|>(h__law_pick<$>((pv 0)>=>pe_int>=>pa_nil)))<=<((op_eq∪(pv 2)∪pe_int)*>((~~~(1<|>sc__law_field.nd<|>(@pe_lst _ _ _ _ (@pa_menu_cons _ _ _ _ _ _ _ _ _ _ _ (@pa_menu_cons _ _ _ _ _ _ _ _ _ _ _ (@pa_menu_cons _ _ _ _ _ _ _ _ _ _ _ (@pa_menu_cons _ _ _ _ _ _ _ _ _ _ _ pa_menu_nil))))))),pss_nil))<=<((op_eq∪(pv 2)∪pe_int)*>((~~~(@ps_setC _ 1 _ _ _ _ _ _ _ _ _ ["_law_p"] [] [] _ _ _ _ sc__law_field.nd rfl (Or.inl rfl) (id (α := CSc ["_law_purse_here", "_law_some", "_law_size", "_law_p", "_law_m", "_law_many", "_law_start", "_law_turn", "_law_field_here"] (defScope s__law_field) ["_law_p"] [] [] _) ⟨by rfl, by decide +kernel, by decide +kernel, by decide +kernel, by decide +kernel, by rfl, by decide +kernel⟩) rfl (@pi_list _ _ _ _ (@pe_lst _ _ _ _ (pe_int>=>pe_int>=>pe_int>=>pe_int>=>pe_int>=>pe_int>=>pe_int>=>pe_int>=>pe_int>=>pe_int>=>pe_int>=>pa_nil))) (fun cl C fp s H => (0⊇["_law_p"])) (fun _ _ _ _ _ => pifs_nil) (fun _ _ _ _ _ => (@pe_tup _ _ _ _ _ ((pv 0)>=>pe_int>=>pa_nil))) (by rfl) (by intro _; rfl) (by first | exact .inl rfl | exact .inr rfl | assumption))),pss_nil))<=<((ix_list<<<(pv 1)<<<(h__law_pick<$>((pv 0)>=>(call_len_seq>>>("len",PySem.boot_len,((pv 1)>=>pa_nil)))>=>pa_nil)))≈((3&&&sc__law_field.nd)∩((4&&&sc__law_field.nd)∩pgs_nil)))<=<(5<|>sc__law_field.nd<|>(h__law_raised<$>((pv 3)>=>(pv 4)>=>pa_nil)))<=<(6<|>sc__law_field.nd<|>(h__law_pick<$>((pv 0)>=>(pv 5)>=>pa_nil)))<=<((↑((pv 5)>=>pa_nil))<&>((7&&&sc__law_field.nd),((8<|>sc__law_field.nd<|>(@pe_tup _ _ _ _ _ ((pv 3)>=>(pv 4)>=>(op_mod|||(op_add|||(pv 6)|||(pv 7))|||(pv 5))>=>pa_nil)))<=<(~~~((@PW.pt _ _ _ (@pw_or _ _ _ _ _ _ _ (op_eq∪(pv 4)∪pe_int) (@pw_or1 _ _ _ _ (@pt_val _ _ _ (h__law_is_good<$>((pv 8)>=>pa_nil)) (by intro _; rfl)))))*>((~~~((pv 8)⁻¹)),pss_nil))))))<=<(~~~((@pe_tup _ _ _ _ _ ((pv 3)>=>pe_int>=>pe_int>=>pa_nil))⁻¹))), ?_⟩
  try dsimp only [cxOf]
  refine menu_read [(2, 1), (2, 2), (2, 3), (2, 4), (3, 1), (3, 2), (3, 3), (5, 1), (5, 2), (7, 1), (11, 1), (13, 1)] _ H _ ?_ fun ts H0 s0 hts hpair => ?_
  · intro x hx
    simp only [List.mem_cons, List.not_mem_nil, or_false] at hx
    rcases hx with rfl | rfl | rfl | rfl | rfl | rfl | rfl | rfl | rfl | rfl | rfl | rfl
    · exact ⟨2, 1, rfl, by decide +kernel⟩
    · exact ⟨2, 2, rfl, by decide +kernel⟩
    · exact ⟨2, 3, rfl, by decide +kernel⟩
    · exact ⟨2, 4, rfl, by decide +kernel⟩
    · exact ⟨3, 1, rfl, by decide +kernel⟩
    · exact ⟨3, 2, rfl, by decide +kernel⟩
    · exact ⟨3, 3, rfl, by decide +kernel⟩
    · exact ⟨5, 1, rfl, by decide +kernel⟩
    · exact ⟨5, 2, rfl, by decide +kernel⟩
    · exact ⟨7, 1, rfl, by decide +kernel⟩
    · exact ⟨11, 1, rfl, by decide +kernel⟩
    · exact ⟨13, 1, rfl, by decide +kernel⟩
  refine ⟨by rw [List.length_map, hts]; exact szl 12, fun l hl => ?_⟩
  have hP0 : Pu (upd H0 l (.lst (ts.map V.ref))) a g := hP.same (s0.trans (same_new hl _))
  have sx0 : SameX a g H (upd H0 l (.lst (ts.map V.ref))) := Same.x (s0.trans (same_new hl _))
  have M0 : Menu a g (upd H0 l (.lst (ts.map V.ref))) l 12 := by
    have n1 := (hP.same s0).lt hl
    refine ⟨⟨ts, upd_same, hts, fun t ht => ?_⟩, n1.1, n1.2⟩
    have n2 := hP.lt (hpair t ht).1
    exact ⟨n2.1, n2.2, (hpair t ht).2.same fun o e => (same_new hl _) _ _ e⟩
  generalize upd H0 l (.lst (ts.map V.ref)) = G at hP0 sx0 M0 ⊢
  refine ⟨_, rfl, a, g, 8, rfl, hP0, by lia, by lia, fun sz H1 hsz hP1 sx1 => ?_⟩
  have sxA := sx0.trans sx1
  have M1 := M0.x sx1
  -- the other menus
  dsimp only [gName]
  let I1 : St → Hp → Prop := fun σ H' => Ex2 fun l n => An6 (0 < n) (n ≤ 12) (Menu a g H' l n) (Pu H' a g) (SameX a g H H') (σ = [some (.ref a), some (.ref l), some (Vn sz), none, none, none, none, none, none])
  refine seq_cut I1 ?_ ?_
  · rintro σ H2 ⟨l, n, hn, hn2, M2, hP2, sx2, rfl⟩
    let I2 : St → Hp → Prop := fun σ H' => Ex2 fun l n => An6 (0 < n) (n ≤ 12) (Menu a g H' l n) (Pu H' a g) (SameX a g H H') (σ = [some (.ref a), some (.ref l), some (Vn sz), none, none, none, none, none, none])
    refine seq_cut I2 ?_ ?_
    · rintro σ H3 ⟨l, n, hn, hn2, M3, hP3, sx3, rfl⟩
      obtain ⟨ts3, e3, l3, p3⟩ := M3.ex
      refine ⟨_, rfl, _, rfl, _, rfl, l, _, rfl, .inl (SqL.of e3), ?_⟩
      refine ⟨a, g, n, by rw [List.length_map, l3]; rfl, hP3, hn, by lia, fun i H4 hi hP4 sx4 => ?_⟩
      obtain ⟨ts4, e4, l4, p4⟩ := (M3.x sx4).ex
      have hi4 : i < ts4.length := by lia
      refine ⟨l, _, _, .ref (ts4[i]), rfl, rfl, SqL.of e4, atI_nat (by rw [List.getElem?_map, List.getElem?_eq_getElem hi4]; rfl), ?_⟩
      obtain ⟨_, _, p, m, ep, hmem⟩ := p4 ts4[i] (List.getElem_mem hi4)
      obtain ⟨hp, hm, hpm⟩ := menu_small hmem
      have hp2 := p_le hp hm hpm
      have hm6 := m_le hp hpm
      have hpos : 0 < p ^ m := Nat.pow_pos (by lia)
      refine ⟨ts4[i], _, rfl, SqT.of ep, rfl, _, _, rfl, _, _, rfl, rfl, ?_⟩
      refine ⟨_, rfl, _, rfl, p, m, rfl, hp2, by lia, ?_⟩
      refine ⟨_, rfl, _, rfl, a, g, p ^ m, rfl, hP4, hpos, by lia, fun st H5 hst hP5 sx5 => ?_⟩
      have sxE := sx3.trans (sx4.trans sx5)
      refine ⟨_, rfl, ((p ^ m : Nat) : Int), rfl, by lia, by lia, ?_⟩
      let I3 : Nat → St → Hp → Prop := fun i σ H' => An3 (Pu H' a g) (SameX a g H H') (Ex2 fun s7 s8 => σ = [some (.ref a), some (.ref l), some (Vn sz), some (Vn p), some (Vn m), some (Vn (p ^ m)), some (Vn st), s7, s8])
      refine for_range (n := p ^ m) I3 ⟨hP5, sxE, none, none, rfl⟩ ?_ ?_
      · rintro j σ H6 hj ⟨hP6, sx6, s7, s8, rfl⟩
        refine ⟨_, rfl, _, rfl, _, rfl, _, rfl, _, _, rfl, rfl, ?_⟩
        refine ⟨_, rfl, _, _, rfl, rfl, by show (0 : Int) < ((p ^ m : Nat) : Int); lia, ?_⟩
        refine ⟨szl 3, fun r hr => ?_⟩
        have nr := hP6.lt hr
        have hr0 : H r = none := by
          cases e : H r with
          | none => rfl
          | some o => rw [sx6 r o nr.1 nr.2 e] at hr; cases hr
        have et : V.int ((((st : Nat) : Int) + (0 + (j : Int))) % ((p ^ m : Nat) : Int)) = Vn ((st + j) % p ^ m) := by show V.int _ = V.int _; congr 1; rw [Int.zero_add]; rfl
        have hlt : (st + j) % p ^ m < p ^ m := Nat.mod_lt _ hpos
        have hP7 : Pu (upd H6 r (.tup [Vn p, Vn m, Vn ((st + j) % p ^ m)])) a g := hP6.same (same_new hr _)
        have sx7 : SameX a g H (upd H6 r (.tup [Vn p, Vn m, Vn ((st + j) % p ^ m)])) := sx6.trans (Same.x (same_new hr _))
        dsimp only [gName]
        rw [et]
        refine ⟨_, rfl, rfl, _, rfl, ?_⟩
        refine ite2 (fun c => ?_) (fun c => ?_)
        · refine ite2 (fun _ => ?_) (fun c => absurd rfl c)
          have hm1 : m = 1 := by
            have := of_decide_eq_true c
            injection this with this
            lia
          exact ⟨_, rfl, q r p m _ _ nr.1 nr.2 hr0 upd_same ⟨hmem, hlt, .inl hm1⟩ hP7 sx7⟩
        · refine ⟨_, rfl, r, p, m, (st + j) % p ^ m, rfl, SqT.of upd_same, hp, hm, hpm, hlt, fun b H8 s8' hb => ?_⟩
          refine ⟨_, rfl, ?_⟩
          refine ite2 (fun c2 => ?_) (fun _ => ?_)
          · exact ⟨_, rfl, q r p m _ _ nr.1 nr.2 hr0 (s8' _ _ upd_same) ⟨hmem, hlt, .inr (hb c2)⟩ (hP7.same s8') (sx7.trans (Same.x s8'))⟩
          · exact ⟨hP7.same s8', sx7.trans (Same.x s8'), _, _, rfl⟩
      · rintro σ H6 ⟨hP6, sx6, s7, s8, rfl⟩
        refine ⟨_, rfl, szl 3, fun r hr => ?_⟩
        have nr := hP6.lt hr
        have hr0 : H r = none := by
          cases e : H r with
          | none => rfl
          | some o => rw [sx6 r o nr.1 nr.2 e] at hr; cases hr
        exact q r p 1 0 _ nr.1 nr.2 hr0 upd_same ⟨menu_one hmem, by simp; lia, .inl rfl⟩ (hP6.same (same_new hr _)) (sx6.trans (Same.x (same_new hr _)))
    · intro D' _ _ _ hD
      refine ⟨_, rfl, rfl, _, rfl, ?_⟩
      refine ite2 (fun c => ?_) (fun c => hD _ _ ⟨l, n, hn, hn2, M2, hP2, sx2, rfl⟩)
      refine ⟨szl 11, fun l2 hl2 => ?_⟩
      refine ⟨l2, rfl, ⟨_, SqL.of upd_same⟩, ?_⟩
      refine comp_any (seqs_list (xs := primes17.map Vn)) (fun k acc H' => Same (upd H2 l2 (.lst (primes17.map Vn))) H' ∧ ∃ ts : List Addr, ts.length = k ∧ acc = ts.map V.ref ∧ ∀ t ∈ ts, t ≠ a ∧ t ≠ g ∧ PairAt H' t)
        ⟨Same.refl _, [], rfl, rfl, fun t ht => nomatch ht⟩ (fun i acc H' _ h => SqL.of (h.1 _ _ upd_same)) ?_ ?_ ?_
      · rintro k acc H' hk ⟨_, ts, e, rfl, _⟩
        have hk' : k < 11 := hk
        rw [List.length_map, e]; exact small1000 (by lia)
      · rintro k acc x H3 H4 hk ⟨s3, ts, e, rfl, hts⟩ ⟨rfl, hx⟩
        obtain ⟨pr, hpr, rfl⟩ : ∃ pr, pr ∈ primes17 ∧ x = Vn pr := by
          rw [List.getElem?_map] at hx
          cases e : primes17[k]? with
          | none => rw [e] at hx; cases hx
          | some pr => rw [e] at hx; cases hx; exact ⟨pr, List.mem_of_getElem? e, rfl⟩
        have hb : (pr, 1) ∈ Dg.menu := (by decide +kernel : ∀ x ∈ primes17, (x, 1) ∈ Dg.menu) pr hpr
        refine ⟨_, rfl, szl 2, fun t ht => ?_⟩
        have hP3 : Pu H4 a g := hP2.same ((same_new hl2 _).trans s3)
        have nt := hP3.lt ht
        refine ⟨s3.trans (same_new ht _), ts ++ [t], by simp [e], by simp, fun t' ht' => ?_⟩
        rcases List.mem_append.mp ht' with h | h
        · exact ⟨(hts t' h).1, (hts t' h).2.1, (hts t' h).2.2.same fun o e => (same_new ht _) _ _ e⟩
        · cases List.mem_singleton.mp h
          exact ⟨nt.1, nt.2, pr, 1, upd_same, hb⟩
      · rintro acc H3 ⟨s3, ts, e, rfl, hts⟩ D hD3
        have sA : Same H2 H3 := (same_new hl2 _).trans s3
        have hP3 : Pu H3 a g := hP2.same sA
        have nD := hP3.lt hD3
        refine hD _ _ ⟨D, 11, by lia, by lia, ⟨⟨ts, upd_same, e, fun t ht => ?_⟩, nD.1, nD.2⟩, hP3.same (same_new hD3 _), sx2.trans (Same.x (sA.trans (same_new hD3 _))), rfl⟩
        exact ⟨(hts t ht).1, (hts t ht).2.1, (hts t ht).2.2.same fun o e => (same_new hD3 _) _ _ e⟩
  · intro D' _ _ _ hD
    refine ⟨_, rfl, rfl, _, rfl, ?_⟩
    refine ite2 (fun c => ?_) (fun c => hD _ _ ⟨l, 12, by lia, by lia, M1, hP1, sxA, rfl⟩)
    refine menu_read [(2, 5), (2, 6), (7, 2), (61, 1)] _ H1 _ ?_ fun ts2 H2 s2 hts2 hpair2 => ?_
    · intro x hx
      simp only [List.mem_cons, List.not_mem_nil, or_false] at hx
      rcases hx with rfl | rfl | rfl | rfl
      · exact ⟨2, 5, rfl, by decide +kernel⟩
      · exact ⟨2, 6, rfl, by decide +kernel⟩
      · exact ⟨7, 2, rfl, by decide +kernel⟩
      · exact ⟨61, 1, rfl, by decide +kernel⟩
    refine ⟨by rw [List.length_map, hts2]; exact szl 4, fun l2 hl2 => ?_⟩
    refine hD _ _ ⟨l2, 4, by lia, by lia, ?_, hP1.same (s2.trans (same_new hl2 _)), sxA.trans (Same.x (s2.trans (same_new hl2 _))), rfl⟩
    have n1 := (hP1.same s2).lt hl2
    refine ⟨⟨ts2, upd_same, hts2, fun t ht => ?_⟩, n1.1, n1.2⟩
    have n2 := hP1.lt (hpair2 t ht).1
    exact ⟨n2.1, n2.2, (hpair2 t ht).2.same fun o e => (same_new hl2 _) _ _ e⟩
end
end My

end
section
set_option Elab.async false
set_option linter.all false
set_option maxRecDepth 100000
set_option maxHeartbeats 4000000
namespace My
open PySem L2 Dg
theorem boot_ty_dict : bootBuiltins "dict" = some (.type "dict") := by decide +kernel
/-! the table of a field: powers and logs -/
noncomputable def Pws (p m t b : Nat) : List Nat := (List.range (p ^ m - 1)).map (pw p m t b)
noncomputable def Logs (p m t b : Nat) : List (Key × V) := (List.range (p ^ m - 1)).map fun i => (Sum.inl ((pw p m t b i : Nat) : Int), Vn i)
noncomputable def tabD (fa pa la : Addr) (p m : Nat) : List (Key × V) := [(.inr "field", .ref fa), (.inr "p", Vn p), (.inr "m", Vn m), (.inr "many", Vn (p ^ m)), (.inr "powers", .ref pa), (.inr "logs", .ref la)]
structure Tab (H : Hp) (tb fa pa la : Addr) (p m t b : Nat) : Prop where
  d : H tb = some (.dK (tabD fa pa la p m))
  f : H fa = some (.tup [Vn p, Vn m, Vn t])
  w : H pa = some (.lst ((Pws p m t b).map Vn))
  l : H la = some (.dK (Logs p m t b))
  good : Good p m t
  prim : Prim p m t b
theorem Tab.same {H H' : Hp} {tb fa pa la : Addr} {p m t b : Nat} (T : Tab H tb fa pa la p m t b) (s : Same H H') : Tab H' tb fa pa la p m t b :=
  ⟨s _ _ T.d, s _ _ T.f, s _ _ T.w, s _ _ T.l, T.good, T.prim⟩
theorem nodup_range_map {α : Type} {f : Nat → α} (n : Nat) (h : ∀ i j, i < n → j < n → f i = f j → i = j) : ((List.range n).map f).Nodup := by
  rw [List.Nodup, List.pairwise_iff_getElem]
  intro i j hi hj hij
  simp only [List.length_map, List.length_range] at hi hj
  simp only [List.getElem_map, List.getElem_range]
  intro e
  have := h i j hi hj e
  lia
theorem valV_range {f : Nat → Key} {g : Nat → V} : ∀ (l : List Nat) (n : Nat), l = List.range n → (∀ i j, i < n → j < n → f i = f j → i = j) → ∀ i, i < n → valV (l.map fun i => (f i, g i)) (f i) = some (g i) := by
  intro l n hl h i hi
  subst hl
  unfold valV
  rw [List.find?_map]
  have e : (List.range n).find? ((fun kv : Key × V => decide (kv.1 = f i)) ∘ fun i => (f i, g i)) = some i := by
    rw [List.find?_range_eq_some]
    refine ⟨by simp, by simpa using hi, fun j hj => ?_⟩
    simp only [Function.comp, Bool.not_eq_true', decide_eq_false_iff_not]
    intro e
    have := h j i (by lia) hi e
    lia
  rw [e]; rfl
theorem mergeK_tab (fa pa la : Addr) (p m : Nat) : mergeK [] (tabD fa pa la p m) = tabD fa pa la p m := rfl
theorem Pws_len (p m t b : Nat) : (Pws p m t b).length = p ^ m - 1 := by simp [Pws]
section
variable {P : Program} {w : World} {mg : Str → Option Value} {base : Heap} {f : Addr} {fd : FuncData}
inductive sp_table (vs : List V) (H : Hp) (Q : VK) (E : XK) : Prop
  | mk (fa : Addr) (p m t : Nat) (c1 : vs = [.ref fa]) (c2 : H fa = some (.tup [Vn p, Vn m, Vn t])) (c3 : Good p m t) (c4 : ∀ tb pa la b H', H tb = none → H pa = none → H la = none → Tab H' tb fa pa la p m t b → Same H H' → Q (.ref tb) H') : sp_table vs H Q E
theorem sc__law_table : FnScope ["_law_field_here", "_law_many", "_law_powers", "_law_base", "_law_thing", "_law_logs"] ["_law_field_here"] (defScope s__law_table) := ⟨rfl, rfl, rfl, by decide +kernel, rfl, by decide +kernel, by decide +kernel⟩
theorem ok_table (B : Bl mg) (h__law_raised : Has P w K mg base 1 "_law_raised" ["_law_one", "_law_many"] sp_number_power) (h__law_product : Has P w K mg base 2 "_law_product" ["_law_field_here", "_law_one", "_law_other"] (sp_product K)) (F : Fun K "_law_table" "_law_table" s__law_table f fd) : FnOk P w K mg base CX0 3 f fd ["_law_field_here"] sp_table := by
  refine F.ok sc__law_table (fun vs H Q E h => ?_) (fun cdv A outer s H vs Q E hr h => ?_)
  · obtain ⟨fa, p, m, t, rfl, _⟩ := h; rfl
  obtain ⟨fa, p, m, t, rfl, hf, G, q⟩ := h
  obtain ⟨b, Pb⟩ := G.prim
  have hp := G.hp
  have hm := G.hm
  have hpm := G.hq
  have ht := G.top
  have hp2 := p_le hp hm hpm
  have hm6 := m_le hp hpm
  have hQ2 := one_lt hp hm
  have hbp := Pb.pos
  have hbl := Pb.lt
  refine ⟨_, ((1<|>sc__law_table.nd<|>(h__law_raised<$>((ix_tup<<<(pv 0)<<<pe_int)>=>(ix_tup<<<(pv 0)<<<pe_int)>=>pa_nil)))<=<(@ps_par _ _ 2 3 _ _ _ _ _ _ _ _ _ _ _ rfl sc__law_table.nd rfl rfl (by decide) rfl rfl ((@pe_lst _ _ _ _ pa_nil)>=>pe_int>=>pa_nil) rfl (by rfl))<=<(@ps_while _ _ _ _ _ _ PassesOwn.never (op_lt∪(call_len_seq>>>("len",PySem.boot_len,((pv 2)>=>pa_nil)))∪(op_sub|||(pv 1)|||pe_int)) ((@ps_par3 _ _ 3 2 4 _ _ _ _ _ _ _ _ _ _ _ _ _ _ rfl sc__law_table.nd rfl rfl rfl (by decide) rfl rfl rfl ((op_add|||(pv 3)|||pe_int)>=>(@pe_lst _ _ _ _ (pe_int>=>pa_nil))>=>(op_add|||(pv 3)|||pe_int)>=>pa_nil) rfl (by rfl))<=<(~~~(@ps_while _ _ _ _ _ _ PassesOwn.never (op_ne∪(pv 4)∪pe_int) ((@ps_expr _ _ _ _ (@pe_bm _ _ _ _ _ _ _ _ _ _ _ _ PySem.F.plainAttrs_list PySem.F.slot_list_append PySem.F.type_list_append mt_append (pv 2) ((pv 4)>=>pa_nil) (by rfl) (by rfl) (by rfl) (by rfl) (by rfl)) (by rfl))<=<(~~~(4<|>sc__law_table.nd<|>(h__law_product<$>((pv 0)>=>(pv 4)>=>(pv 3)>=>pa_nil)))))))))<=<(5<|>sc__law_table.nd<|>((call_dict_pairs rfl)<*("dict",boot_ty_dict,((["_law_at", "_law_thing"]⊆([],[],["_law_field_here", "_law_many", "_law_powers", "_law_base", "_law_thing", "_law_logs"],s__law_table,(@pi_enum _ _ _ _ _ _ _ _ rfl (B "enumerate" (by decide)) ((pv 2)>=>pa_nil) (by rfl)),(@pg_tupK _ _ _ _ 2 _ K rfl rfl ((0⊇["_law_at", "_law_thing"])∩((1⊇["_law_at", "_law_thing"])∩pgs_nil)) (by rfl) (by rfl)),pifs_nil,(@pe_tup _ _ _ _ _ ((pv 1)>=>(pv 0)>=>pa_nil))))>=>pa_nil))))<=<(~~~((@pe_disp _ _ _ _ _ (@pps_cons _ _ _ _ _ _ _ _ _ pe_str (pv 0) (@pps_cons _ _ _ _ _ _ _ _ _ pe_str (ix_tup<<<(pv 0)<<<pe_int) (@pps_cons _ _ _ _ _ _ _ _ _ pe_str (ix_tup<<<(pv 0)<<<pe_int) (@pps_cons _ _ _ _ _ _ _ _ _ pe_str (pv 1) (@pps_cons _ _ _ _ _ _ _ _ _ pe_str (pv 2) (@pps_cons _ _ _ _ _ _ _ _ _ pe_str (pv 5) pps_nil)))))) rfl rfl (fun h => nomatch h) (by decide))⁻¹))), ?_⟩
  try dsimp only [cxOf]
  refine ⟨_, rfl, fa, _, _, _, rfl, rfl, SqT.of hf, rfl, ?_⟩
  refine ⟨_, rfl, fa, _, _, _, rfl, rfl, SqT.of hf, rfl, ?_⟩
  refine ⟨p, m, rfl, hp2, by lia, ?_⟩
  refine ⟨szl 0, fun l0 hl0 => ⟨_, _, rfl, ?_⟩⟩
  dsimp only []
  let I1 : St → Hp → Prop := fun σ H' => Same H H' ∧ Ex2 fun pa s4 => An3 (H pa = none) (H' pa = some (.lst ((Pws p m t b).map Vn))) (σ = [some (.ref fa), some (Vn (p ^ m)), some (.ref pa), some (Vn b), s4, none])
  refine seq_cut I1 ?_ ?_
  · rintro σ H1 ⟨s1, pa, s4, npa, epa, rfl⟩
    refine ⟨_, rfl, false, pa, rfl, ⟨_, SqL.of epa⟩, ?_⟩
    refine comp_any (seqs_enum (b := false) (xs := (Pws p m t b).map Vn)) (fun k acc H' => Same H1 H' ∧ ∃ ts : List Addr, ts.length = k ∧ acc = ts.map V.ref ∧ ∀ j a, ts[j]? = some a → H' a = some (.tup [Vn (pw p m t b j), Vn j])) ⟨Same.refl _, [], rfl, rfl, fun j a e => by simp at e⟩ (fun i acc H' _ h => SqL.of (h.1 _ _ epa)) ?_ ?_ ?_
    · rintro k acc H' hk ⟨_, ts, e, rfl, _⟩
      rw [List.length_map, Pws_len] at hk
      rw [List.length_map, e]; exact small1000 (by lia)
    · rintro k acc x H2 H3 hk ⟨s2, ts, e, rfl, hts⟩ ⟨T, u, rfl, eu, hT, rfl⟩
      rw [List.length_map, Pws_len] at hk
      have eu2 : u = Vn (pw p m t b k) := by
        unfold Pws at eu
        rw [List.getElem?_map, List.getElem?_map, List.getElem?_range hk] at eu
        exact (Option.some.inj eu).symm
      subst eu2
      refine ⟨T, _, rfl, SqT.of upd_same, rfl, _, _, rfl, _, _, rfl, rfl, ?_⟩
      refine ⟨_, rfl, _, rfl, szl 2, fun a ha => ?_⟩
      have sA := (same_new hT (.tup [.int (k : Int), Vn (pw p m t b k)])).trans (same_new ha (.tup [Vn (pw p m t b k), Vn k]))
      refine ⟨s2.trans sA, ts ++ [a], by simp [e], by simp, fun j a' ej => ?_⟩
      rw [List.getElem?_append] at ej
      split at ej
      · exact sA _ _ (hts j a' ej)
      · rename_i h
        have hj : j = k := by
          have := (List.getElem?_eq_some_iff.mp ej).1
          simp at this; lia
        subst hj
        simp [e] at ej
        subst ej
        exact upd_same
    · rintro acc H2 ⟨s2, ts, e, rfl, hts⟩ D hD
      rw [List.length_map, Pws_len] at e
      have sB := same_new hD (.lst (ts.map V.ref))
      refine ⟨D, ts, Logs p m t b, rfl, upd_same, by rw [e]; simp [Logs], by simp only [Logs, List.length_map, List.length_range]; exact szl _ (by lia), fun j a kv ej ek => ?_, ?_, fun la hla => ?_⟩
      · have hj : j < p ^ m - 1 := by have := (List.getElem?_eq_some_iff.mp ej).1; lia
        unfold Logs at ek
        rw [List.getElem?_map, List.getElem?_range hj] at ek
        cases ek
        exact sB _ _ (hts j a ej)
      · unfold Logs
        rw [List.map_map]
        refine nodup_range_map _ fun i j hi hj e => G.inj Pb i j hi hj ?_
        have e : Sum.inl ((pw p m t b i : Nat) : Int) = (Sum.inl ((pw p m t b j : Nat) : Int) : Key) := e
        injection e with e
        lia
      · intro tb htb
        have s3 : Same H1 (upd (upd H2 D (.lst (ts.map V.ref))) la (.dK (Logs p m t b))) := (s2.trans sB).trans (same_new hla _)
        have s4 := s3.trans (same_new htb (.dK []))
        have s5 := s1.trans s4
        refine ⟨_, rfl, _, rfl, fa, _, _, _, rfl, rfl, SqT.of (s5 _ _ hf), rfl, ?_⟩
        refine ⟨_, rfl, fa, _, _, _, rfl, rfl, SqT.of (s5 _ _ hf), rfl, ?_⟩
        refine ⟨_, rfl, _, rfl, _, rfl, upd_same, tabD fa pa la p m, rfl, by show 6 ≤ 15; decide, ?_⟩
        rw [upd_upd, mergeK_tab]
        have s6 := s3.trans (same_new htb (.dK (tabD fa pa la p m)))
        have s7 := s1.trans s6
        have old : ∀ a, H1 a = none → H a = none := fun a ha => by
          cases e : H a with
          | none => rfl
          | some o => rw [s1 _ _ e] at ha; cases ha
        have old2 : ∀ a, upd H2 D (.lst (ts.map V.ref)) a = none → H a = none := fun a ha => by
          cases e : H a with
          | none => rfl
          | some o => rw [(s2.trans sB) _ _ (s1 _ _ e)] at ha; cases ha
        refine q tb pa la b _ ?_ npa (old2 la hla) ⟨upd_same, s7 _ _ hf, s6 _ _ epa, (same_new htb _) _ _ upd_same, G, Pb⟩ s7
        cases e : H tb with
        | none => rfl
        | some o => rw [s3 _ _ (s1 _ _ e)] at htb; cases htb
  · intro D' _ _ _ hD
    let I2 : St → Hp → Prop := fun σ H' => Same H H' ∧ Ex3 fun base pa s4 => An3 (H pa = none) (σ = [some (.ref fa), some (Vn (p ^ m)), some (.ref pa), some (Vn base), s4, none]) (∃ L : List Nat, H' pa = some (.lst (L.map Vn)) ∧ ((base = b ∧ L = Pws p m t b) ∨ (base < b ∧ L.length < p ^ m - 1)))
    refine while_go I2
      (fun σ _ => b - mI σ 3) ⟨same_new hl0 _, 0, l0, none, hl0, rfl, [], upd_same, .inr ⟨hbp, by show 0 < p ^ m - 1; lia⟩⟩ ?_
    rintro σ H1 ⟨s1, bs, pa, s4, npa, rfl, L, ePa, hL⟩
    refine ⟨_, rfl, pa, _, rfl, .inl (SqL.of ePa), ?_⟩
    refine ⟨_, rfl, _, _, rfl, rfl, _, _, rfl, rfl, _, rfl, ?_⟩
    rw [List.length_map]
    refine ite2 (fun c => ?_) (fun c => ?_)
    · have c' : L.length < p ^ m - 1 := by have := of_decide_eq_true c; lia
      have hlt : bs < b := by
        rcases hL with ⟨rfl, rfl⟩ | h
        · rw [Pws_len] at c'; lia
        · exact h.1
      -- one more base
      refine ⟨fun σ' H' => Same H H' ∧ Ex2 fun pa s4 => H pa = none ∧ σ' = [some (.ref fa), some (Vn (p ^ m)), some (.ref pa), some (Vn (bs + 1)), s4, none] ∧ ∃ L : List Nat, H' pa = some (.lst (L.map Vn)) ∧ ((bs + 1 = b ∧ L = Pws p m t b) ∨ (bs + 1 < b ∧ L.length < p ^ m - 1)), ?_, ?_⟩
      · rintro σ' H' ⟨s2, pa2, s5, n2, rfl, L2, e2, h2⟩
        refine ⟨_, ?_, rfl, s2, bs + 1, pa2, s5, n2, rfl, L2, e2, h2⟩
        show b - (bs + 1) < b - bs; lia
      refine ⟨_, rfl, _, _, rfl, rfl, ?_⟩
      refine ⟨szl 1, fun l1 hl1 => ?_⟩
      refine ⟨_, rfl, _, _, rfl, rfl, _, _, _, rfl, ?_⟩
      have n1 : H l1 = none := by
        cases e : H l1 with
        | none => rfl
        | some o => rw [s1 _ _ e] at hl1; cases hl1
      have hb1 : bs + 1 < p ^ m := by lia
      have nfa : fa ≠ l1 := ne_of_none hf n1
      let I3 : St → Hp → Prop := fun σ H' => SameX l1 l1 H1 H' ∧ ∃ k, An5 (1 ≤ k) (k ≤ p ^ m - 1) (σ = [some (.ref fa), some (Vn (p ^ m)), some (.ref l1), some (Vn (bs + 1)), some (Vn (pw p m t (bs + 1) k)), none]) (H' l1 = some (.lst (((List.range k).map (pw p m t (bs + 1))).map Vn))) (∀ i, 0 < i → i < k → pw p m t (bs + 1) i ≠ 1)
      refine while_go I3
        (fun _ H' => p ^ m - lenAt H' l1) ⟨Same.x (same_new hl1 _), 1, by lia, by lia, ?_, upd_same, fun i h1 h2 => by lia⟩ ?_
      · rw [pw_one hp hm hb1]; rfl
      rintro σ H2 ⟨sx2, k, hk1, hk2, rfl, e2, hne⟩
      have hlen : lenAt H2 l1 = k := by rw [lenAt_of e2]; simp
      refine ⟨_, rfl, rfl, _, rfl, ?_⟩
      refine ite2 (fun c => ?_) (fun c => ?_)
      · have hk : pw p m t (bs + 1) k ≠ 1 := by
          intro e
          rw [e] at c
          exact absurd c (by decide)
        have hk3 : k < p ^ m - 1 := by
          rcases Nat.lt_or_ge k (p ^ m - 1) with h | h
          · exact h
          · have : k = p ^ m - 1 := by lia
            rw [this] at hk
            exact absurd (G.fermat (by lia) hb1) hk
        have hf2 : H2 fa = some (.tup [Vn p, Vn m, Vn t]) := sx2 _ _ nfa nfa (s1 _ _ hf)
        have e3 : ((List.range k).map (pw p m t (bs + 1))).map Vn ++ [Vn (pw p m t (bs + 1) k)] = ((List.range (k + 1)).map (pw p m t (bs + 1))).map Vn := by
          rw [List.range_succ, List.map_append, List.map_append]; rfl
        refine ⟨fun σ' H' => SameX l1 l1 H1 H' ∧ σ' = [some (.ref fa), some (Vn (p ^ m)), some (.ref l1), some (Vn (bs + 1)), some (Vn (pw p m t (bs + 1) (k + 1))), none] ∧ H' l1 = some (.lst (((List.range (k + 1)).map (pw p m t (bs + 1))).map Vn)), ?_, ?_⟩
        · rintro σ' H' ⟨a1, rfl, a3⟩
          have hl2 : lenAt H' l1 = k + 1 := by rw [lenAt_of a3]; simp
          refine ⟨_, ?_, rfl, a1, k + 1, by lia, by lia, rfl, a3, fun i h1 h2 => ?_⟩
          · show p ^ m - lenAt H' l1 < p ^ m - lenAt H2 l1; rw [hl2, hlen]; lia
          · rcases Nat.lt_or_ge i k with h | h
            · exact hne i h1 h
            · rw [show i = k by lia]; exact hk
        refine ⟨_, rfl, .inl ⟨rfl, _, SqL.of e2⟩, _, rfl, ?_⟩
        refine ⟨l1, _, _, rfl, rfl, e2, by simp only [List.length_map, List.length_range]; exact small1000 (by lia), ?_⟩
        rw [e3]
        have s3 : SameX l1 l1 H1 (upd H2 l1 (.lst (((List.range (k + 1)).map (pw p m t (bs + 1))).map Vn))) := sx_set sx2
        refine ⟨_, rfl, _, rfl, _, rfl, fa, p, m, t, pw p m t (bs + 1) k, bs + 1, rfl, SqT.of (by rw [upd_ne nfa]; exact hf2), hp, hm, hpm, ht, pw_lt hp hm _ _, hb1, fun r H4 s4' br hr => ?_⟩
        have e := mul_of hp hm br hr
        subst e
        exact ⟨s3.trans (Same.x s4'), rfl, s4' _ _ upd_same⟩
      · have hk : pw p m t (bs + 1) k = 1 := by
          rcases Nat.decEq (pw p m t (bs + 1) k) 1 with h | h
          · exfalso
            refine c ?_
            rw [decide_eq_false]; rfl
            intro e; injection e with e; exact h (by lia)
          · exact h
        refine ⟨(s1.trans (sx_same (sx2) hl1)), l1, _, n1, rfl, _, e2, ?_⟩
        rcases Nat.lt_or_ge (bs + 1) b with h | h
        · refine .inr ⟨h, ?_⟩
          obtain ⟨i, i0, i1, ie⟩ := Pb.low (bs + 1) (by lia) h
          simp only [List.length_map, List.length_range]
          rcases Nat.lt_or_ge i k with h3 | h3
          · exact absurd ie (hne i i0 h3)
          · lia
        · have hbb : bs + 1 = b := by lia
          refine .inl ⟨hbb, ?_⟩
          rw [hbb] at hk ⊢
          have : k = p ^ m - 1 := by
            rcases Nat.lt_or_ge k (p ^ m - 1) with h3 | h3
            · exact absurd hk (Pb.min k (by lia) h3)
            · lia
          rw [this]; rfl
    · have c' : ¬ L.length < p ^ m - 1 := by
        intro h; exact c (decide_eq_true (by lia))
      rcases hL with ⟨rfl, rfl⟩ | h
      · exact hD _ _ ⟨s1, pa, s4, npa, ePa, rfl⟩
      · exact absurd h.2 c'
/-! plus and times by the table -/
theorem tab_p {fa pa la : Addr} {p m : Nat} : valV (tabD fa pa la p m) (.inr "p") = some (Vn p) := rfl
theorem tab_m {fa pa la : Addr} {p m : Nat} : valV (tabD fa pa la p m) (.inr "m") = some (Vn m) := rfl
theorem tab_many {fa pa la : Addr} {p m : Nat} : valV (tabD fa pa la p m) (.inr "many") = some (Vn (p ^ m)) := rfl
theorem tab_powers {fa pa la : Addr} {p m : Nat} : valV (tabD fa pa la p m) (.inr "powers") = some (.ref pa) := rfl
theorem tab_logs {fa pa la : Addr} {p m : Nat} : valV (tabD fa pa la p m) (.inr "logs") = some (.ref la) := rfl
theorem tab_field {fa pa la : Addr} {p m : Nat} : valV (tabD fa pa la p m) (.inr "field") = some (.ref fa) := rfl
theorem Tab.get {H : Hp} {tb fa pa la : Addr} {p m t b : Nat} (T : Tab H tb fa pa la p m t b) {x : Str} {v : V} (h : valV (tabD fa pa la p m) (.inr x) = some v) : DGet H tb (.str x) (some v) := by
  rw [← h]; exact DGet.k (k := .inr x) T.d
theorem Tab.log {H : Hp} {tb fa pa la : Addr} {p m t b : Nat} (T : Tab H tb fa pa la p m t b) {i : Nat} (h : i < p ^ m - 1) : DGet H la (Vn (pw p m t b i)) (some (Vn i)) := by
  have e : valV (Logs p m t b) (.inl ((pw p m t b i : Nat) : Int)) = some (Vn i) := by
    unfold Logs
    refine valV_range _ _ rfl (fun i j hi hj e => T.good.inj T.prim i j hi hj ?_) i h
    injection e with e
    lia
  rw [← e]; exact DGet.k (k := .inl ((pw p m t b i : Nat) : Int)) T.l
theorem dec_nat0 (x : Nat) : decide (Vn x = V.int 0) = decide (x = 0) := decide_eq_decide.mpr ⟨fun e => by injection e with e; lia, fun e => by rw [e]; rfl⟩
inductive sp_ltimes (vs : List V) (H : Hp) (Q : VK) (E : XK) : Prop
  | mk (tb fa pa la : Addr) (p m t b x y : Nat) (c1 : vs = [.ref tb, Vn x, Vn y]) (c2 : Tab H tb fa pa la p m t b) (c3 : x < p ^ m) (c4 : y < p ^ m) (c5 : Q (Vn (mul p m t x y)) H) : sp_ltimes vs H Q E
theorem sc__law_times : FnScope ["_law_table_here", "_law_one", "_law_other", "_law_at"] ["_law_table_here", "_law_one", "_law_other"] (defScope s__law_times) := ⟨rfl, rfl, rfl, by decide +kernel, rfl, by decide +kernel, by decide +kernel⟩
theorem ok_ltimes (B : Bl mg) (F : Fun K "_law_times" "_law_times" s__law_times f fd) : FnOk P w K mg base CX0 1 f fd ["_law_table_here", "_law_one", "_law_other"] sp_ltimes := by
  refine F.ok sc__law_times (fun vs H Q E h => ?_) (fun cdv A outer s H vs Q E hr h => ?_)
  · obtain ⟨tb, fa, pa, la, p, m, t, b, x, y, rfl, _⟩ := h; rfl
  obtain ⟨tb, fa, pa, la, p, m, t, b, x, y, rfl, T, hx, hy, q⟩ := h
  have hp := T.good.hp
  have hm := T.good.hm
  refine ⟨_, (((@PW.pt _ _ _ (@pw_or _ _ _ _ _ _ _ (op_eq∪(pv 1)∪pe_int) (@pw_or1 _ _ _ _ (op_eq∪(pv 2)∪pe_int))))*>((~~~(pe_int⁻¹)),pss_nil))<=<(3<|>sc__law_times.nd<|>(op_add|||(((pv 0)⊃pe_str)⊃(pv 1))|||(((pv 0)⊃pe_str)⊃(pv 2))))<=<(~~~((ix_list<<<((pv 0)⊃pe_str)<<<(op_mod|||(pv 3)|||(op_sub|||((pv 0)⊃pe_str)|||pe_int)))⁻¹))), ?_⟩
  try dsimp only [cxOf]
  refine tOr_of (b1 := decide (x = 0)) (b2 := decide (y = 0)) (fun Q q => ⟨_, rfl, rfl, _, rfl, ?_⟩) (fun Q q => ⟨_, rfl, rfl, _, rfl, ?_⟩) ?_
  · rw [dec_nat0]; exact q
  · rw [dec_nat0]; exact q
  refine ite2 (fun c => ?_) (fun c => ?_)
  · have e : mul p m t x y = 0 := by
      simp only [Bool.or_eq_true, decide_eq_true_eq] at c
      rcases c with rfl | rfl
      · exact zero_mul hp hm _
      · exact mul_zero hp hm _
    rw [e] at q
    exact q
  · simp only [Bool.or_eq_true, decide_eq_true_eq, not_or] at c
    obtain ⟨i, hi, ei⟩ := T.prim.all x (by lia) hx
    obtain ⟨j, hj, ej⟩ := T.prim.all y (by lia) hy
    have hQ2 := one_lt hp hm
    have hQ := T.good.hq
    have gi := T.log hi
    have gj := T.log hj
    rw [ei] at gi
    rw [ej] at gj
    refine ⟨_, rfl, tb, _, rfl, T.get tab_logs, _, rfl, la, _, rfl, gi, ?_⟩
    refine ⟨_, rfl, tb, _, rfl, T.get tab_logs, _, rfl, la, _, rfl, gj, _, _, rfl, rfl, ?_⟩
    refine ⟨_, rfl, tb, _, rfl, T.get tab_powers, ?_⟩
    refine ⟨_, rfl, _, rfl, tb, _, rfl, T.get tab_many, _, _, rfl, rfl, _, _, rfl, rfl, by show (0 : Int) < ((p ^ m : Nat) : Int) - 1; lia, ?_⟩
    have ek : ((i : Int) + (j : Int)) % (((p ^ m : Nat) : Int) - 1) = (((i + j) % (p ^ m - 1) : Nat) : Int) := by
      rw [Int.natCast_emod, Int.natCast_add, Int.natCast_sub (by lia)]; rfl
    have hk : (i + j) % (p ^ m - 1) < p ^ m - 1 := Nat.mod_lt _ (by lia)
    refine ⟨pa, _, _, Vn (pw p m t b ((i + j) % (p ^ m - 1))), rfl, rfl, SqL.of T.w, ?_, ?_⟩
    · show atI _ (((i : Int) + (j : Int)) % (((p ^ m : Nat) : Int) - 1)) = _
      rw [ek]
      exact atI_nat (by unfold Pws; rw [List.getElem?_map, List.getElem?_map, List.getElem?_range hk]; rfl)
    · have e : pw p m t b ((i + j) % (p ^ m - 1)) = mul p m t x y := by
        rw [T.good.pw_mod T.prim.pos T.prim.lt, pw_add hp hm, ei, ej]
      rw [e]
      exact q
end
end My

end
section
set_option Elab.async false
set_option linter.all false
set_option maxRecDepth 100000
set_option maxHeartbeats 4000000
namespace My
open PySem L2 Dg
theorem map_get {ws : List Nat} {i : Nat} (h : i < ws.length) : (ws.map Vn)[i]? = some (Vn (ws.getD i 0)) := by
  rw [List.getElem?_map, List.getElem?_eq_getElem h]; simp [List.getD, h]
theorem same_upd {H H' : Hp} {l : Addr} {o : HO} (s : Same H H') (h : H l = none) : Same H (upd H' l o) := fun b u e => by rw [upd_ne (ne_of_none e h)]; exact s _ _ e
theorem mapI (ns : List Nat) : (ns.map fun n : Nat => (n : Int)).map V.int = ns.map Vn := by rw [List.map_map]; rfl
structure Apart (pu g tb fa pa la : Addr) : Prop where
  a1 : tb ≠ pu
  a2 : tb ≠ g
  b1 : fa ≠ pu
  b2 : fa ≠ g
  c1 : pa ≠ pu
  c2 : pa ≠ g
  d1 : la ≠ pu
  d2 : la ≠ g
theorem Tab.x {H H' : Hp} {pu g tb fa pa la : Addr} {p m t b : Nat} (T : Tab H tb fa pa la p m t b) (a : Apart pu g tb fa pa la) (s : SameX pu g H H') : Tab H' tb fa pa la p m t b :=
  ⟨s _ _ a.a1 a.a2 T.d, s _ _ a.b1 a.b2 T.f, s _ _ a.c1 a.c2 T.w, s _ _ a.d1 a.d2 T.l, T.good, T.prim⟩
/-! no 0 at the end -/
end My

end
section
set_option Elab.async false
set_option linter.all false
set_option maxRecDepth 100000
set_option maxHeartbeats 4000000
namespace My
open PySem L2 Dg
/-! the product of two rows, under way: i of the one are through, and j of the other with the next -/
end My

end
section
set_option Elab.async false
set_option linter.all false
set_option maxRecDepth 100000
set_option maxHeartbeats 4000000
namespace My
open PySem L2 Dg
/-! trim, by places -/
/-! rows together -/
end My

end
section
set_option Elab.async false
set_option linter.all false
set_option maxRecDepth 100000
set_option maxHeartbeats 4000000
namespace My
open PySem L2 Dg
end My

end
section
set_option Elab.async false
set_option linter.all false
set_option maxRecDepth 100000
set_option maxHeartbeats 4000000
namespace My
open PySem L2 Dg
/-- n is the round of x -/
structure Ord (p m t x n : Nat) : Prop where
  pos : 1 ≤ n
  one : pw p m t x n = 1
  min : ∀ i, 0 < i → i < n → pw p m t x i ≠ 1
theorem Ord.le {p m t x n k : Nat} (o : Ord p m t x n) (h0 : 0 < k) (h : pw p m t x k = 1) : n ≤ k := by
  rcases Nat.lt_or_ge k n with h1 | h1
  · exact absurd h (o.min k h0 h1)
  · exact h1
theorem Ord.uniq {p m t x n k : Nat} (o : Ord p m t x n) (o' : Ord p m t x k) : n = k := Nat.le_antisymm (o.le o'.pos o'.one) (o'.le o.pos o.one)
theorem dec_nat1 (x : Nat) : decide (Vn x = V.int 1) = decide (x = 1) := decide_eq_decide.mpr ⟨fun e => by injection e with e; lia, fun e => by rw [e]; rfl⟩
section
variable {P : Program} {w : World} {mg : Str → Option Value} {base : Heap} {f : Addr} {fd : FuncData}
inductive sp_round (K : PySem.W.Frag) (vs : List V) (H : Hp) (Q : VK) (E : XK) : Prop
  | mk (fa : Addr) (p m t x : Nat) (c1 : vs = [.ref fa, Vn x]) (c2 : Fld K H fa p m t) (c3 : Good p m t) (c4 : 0 < x) (c5 : x < p ^ m) (c6 : ∀ n, Ord p m t x n → n ≤ p ^ m - 1 → Q (Vn n) H) : sp_round K vs H Q E
theorem sc_round_of : FnScope ["field", "one", "many", "product"] ["field", "one"] (defScope s_round_of) := ⟨rfl, rfl, rfl, by decide +kernel, rfl, by decide +kernel, by decide +kernel⟩
theorem ok_round (B : Bl mg) (h_times : Has P w K mg base 3 "times" ["field", "one", "other"] (sp_times K)) (F : Fun K "round_of" "round_of" s_round_of f fd) : FnOk P w K mg base CX0 4 f fd ["field", "one"] (sp_round K) := by
  refine F.ok sc_round_of (fun vs H Q E h => ?_) (fun cdv A outer s H vs Q E hr h => ?_)
  · obtain ⟨fa, p, m, t, x, rfl, _⟩ := h; rfl
  obtain ⟨fa, p, m, t, x, rfl, hF, G, h0, hx, q⟩ := h
  have hp := G.hp
  have hm := G.hm
  have hQ := G.hq
  have hQ2 := one_lt hp hm
  refine ⟨_, ((2<|>sc_round_of.nd<|>pe_int)<=<(3<|>sc_round_of.nd<|>(pv 1))<=<(@ps_while _ _ _ _ _ _ PassesOwn.never (op_ne∪(pv 3)∪pe_int) ((3<|>sc_round_of.nd<|>(h_times<$>((pv 0)>=>(pv 3)>=>(pv 1)>=>pa_nil)))<=<(~~~(@ps_aug _ _ 2 _ _ _ _ _ _ sc_round_of.nd rfl (Or.inl rfl) pe_int iop_add (by first | exact .inl rfl | exact .inr rfl | assumption)))))<=<(~~~((pv 2)⁻¹))), ?_⟩
  try dsimp only [cxOf]
  refine ⟨_, rfl, ?_⟩
  let I1 : St → Hp → Prop := fun σ H' => H' = H ∧ ∃ k, An4 (1 ≤ k) (k ≤ p ^ m - 1) (σ = [some (.ref fa), some (Vn x), some (Vn k), some (Vn (pw p m t x k))]) (∀ i, 0 < i → i < k → pw p m t x i ≠ 1)
  refine while_go I1 (fun σ _ => p ^ m - mI σ 2) ⟨rfl, 1, by lia, by lia, by rw [pw_one hp hm hx]; rfl, fun i h1 h2 => by lia⟩ ?_
  rintro σ H' ⟨rfl, k, hk1, hk2, rfl, hne⟩
  refine ⟨_, rfl, rfl, _, rfl, ?_⟩
  rw [dec_nat1]
  refine ite2 (fun c => ?_) (fun c => ?_)
  · have hk : pw p m t x k ≠ 1 := by
      intro e
      rw [decide_eq_true e] at c
      exact absurd c (by decide)
    have hk3 : k < p ^ m - 1 := by
      rcases Nat.lt_or_ge k (p ^ m - 1) with h | h
      · exact h
      · have : k = p ^ m - 1 := by lia
        rw [this] at hk
        exact absurd (G.fermat h0 hx) hk
    refine ⟨fun σ' H'' => H'' = H' ∧ σ' = [some (.ref fa), some (Vn x), some (Vn (k + 1)), some (Vn (pw p m t x (k + 1)))], ?_, ?_⟩
    · rintro σ' H'' ⟨rfl, rfl⟩
      refine ⟨_, ?_, rfl, rfl, k + 1, by lia, by lia, rfl, fun i h1 h2 => ?_⟩
      · show p ^ m - (k + 1) < p ^ m - k; lia
      · rcases Nat.lt_or_ge i k with h | h
        · exact hne i h1 h
        · rw [show i = k by lia]; exact hk
    · refine ⟨_, rfl, _, rfl, _, rfl, fa, p, m, t, pw p m t x k, x, rfl, hF, hp, hm, hQ, G.top, pw_lt hp hm _ _, hx, fun r br h1 => ?_⟩
      cases mul_of hp hm br h1
      exact ⟨_, rfl, _, _, rfl, rfl, rfl, rfl⟩
  · have hk : pw p m t x k = 1 := by
      rcases Nat.decEq (pw p m t x k) 1 with h | h
      · exact absurd (by rw [decide_eq_false h]; rfl) c
      · exact h
    exact ⟨_, rfl, q k ⟨hk1, hk, hne⟩ hk2⟩
inductive sp_length (K : PySem.W.Frag) (vs : List V) (H : Hp) (Q : VK) (E : XK) : Prop
  | mk (wa fa : Addr) (p m t few x : Nat) (mv : V) (c1 : vs = [.ref wa]) (c2 : SqT K H wa [.ref fa, Vn few, Vn x, mv]) (c3 : Fld K H fa p m t) (c4 : Good p m t) (c5 : 0 < x) (c6 : x < p ^ m) (c7 : ∀ n, Ord p m t x n → n ≤ p ^ m - 1 → Q (Vn n) H) : sp_length K vs H Q E
theorem sc_length : FnScope ["wheel"] ["wheel"] (defScope s_length) := ⟨rfl, rfl, rfl, by decide +kernel, rfl, by decide +kernel, by decide +kernel⟩
theorem ok_length (B : Bl mg) (h_round_of : Has P w K mg base 4 "round_of" ["field", "one"] (sp_round K)) (F : Fun K "length" "length" s_length f fd) : FnOk P w K mg base CX0 5 f fd ["wheel"] (sp_length K) := by
  refine F.ok sc_length (fun vs H Q E h => ?_) (fun cdv A outer s H vs Q E hr h => ?_)
  · obtain ⟨wa, fa, p, m, t, few, x, mv, rfl, _⟩ := h; rfl
  obtain ⟨wa, fa, p, m, t, few, x, mv, rfl, hw, hF, G, h0, hx, q⟩ := h
  refine ⟨_, (~~~((h_round_of<$>((ix_tup<<<(pv 0)<<<pe_int)>=>(ix_tup<<<(pv 0)<<<pe_int)>=>pa_nil))⁻¹)), ?_⟩
  try dsimp only [cxOf]
  refine ⟨_, rfl, wa, _, _, _, rfl, rfl, hw, rfl, ?_⟩
  refine ⟨_, rfl, wa, _, _, _, rfl, rfl, hw, rfl, ?_⟩
  exact ⟨fa, p, m, t, x, rfl, hF, G, h0, hx, q⟩
inductive sp_lround (vs : List V) (H : Hp) (Q : VK) (E : XK) : Prop
  | mk (tb fa pa la : Addr) (p m t b x : Nat) (c1 : vs = [.ref tb, Vn x]) (c2 : Tab H tb fa pa la p m t b) (c3 : 0 < x) (c4 : x < p ^ m) (c5 : ∀ n, Ord p m t x n → n ≤ p ^ m - 1 → Q (Vn n) H) : sp_lround vs H Q E
theorem sc__law_round : FnScope ["_law_table_here", "_law_one", "_law_many", "_law_thing"] ["_law_table_here", "_law_one"] (defScope s__law_round) := ⟨rfl, rfl, rfl, by decide +kernel, rfl, by decide +kernel, by decide +kernel⟩
theorem ok_lround (B : Bl mg) (h__law_times : Has P w K mg base 1 "_law_times" ["_law_table_here", "_law_one", "_law_other"] sp_ltimes) (F : Fun K "_law_round" "_law_round" s__law_round f fd) : FnOk P w K mg base CX0 2 f fd ["_law_table_here", "_law_one"] sp_lround := by
  refine F.ok sc__law_round (fun vs H Q E h => ?_) (fun cdv A outer s H vs Q E hr h => ?_)
  · obtain ⟨tb, fa, pa, la, p, m, t, b, x, rfl, _⟩ := h; rfl
  obtain ⟨tb, fa, pa, la, p, m, t, b, x, rfl, T, h0, hx, q⟩ := h
  have G := T.good
  have hp := G.hp
  have hm := G.hm
  have hQ := G.hq
  have hQ2 := one_lt hp hm
  refine ⟨_, ((@ps_par _ _ 2 3 _ _ _ _ _ _ _ _ _ _ _ rfl sc__law_round.nd rfl rfl (by decide) rfl rfl (pe_int>=>(pv 1)>=>pa_nil) rfl (by rfl))<=<(@ps_while _ _ _ _ _ _ PassesOwn.never (op_ne∪(pv 3)∪pe_int) (~~~(@ps_par _ _ 2 3 _ _ _ _ _ _ _ _ _ _ _ rfl sc__law_round.nd rfl rfl (by decide) rfl rfl ((op_add|||(pv 2)|||pe_int)>=>(h__law_times<$>((pv 0)>=>(pv 3)>=>(pv 1)>=>pa_nil))>=>pa_nil) rfl (by rfl))))<=<(~~~((pv 2)⁻¹))), ?_⟩
  try dsimp only [cxOf]
  refine ⟨_, rfl, _, _, rfl, ?_⟩
  let I2 : St → Hp → Prop := fun σ H' => H' = H ∧ ∃ k, An4 (1 ≤ k) (k ≤ p ^ m - 1) (σ = [some (.ref tb), some (Vn x), some (Vn k), some (Vn (pw p m t x k))]) (∀ i, 0 < i → i < k → pw p m t x i ≠ 1)
  refine while_go I2 (fun σ _ => p ^ m - mI σ 2) ⟨rfl, 1, by lia, by lia, by rw [pw_one hp hm hx]; rfl, fun i h1 h2 => by lia⟩ ?_
  rintro σ H' ⟨rfl, k, hk1, hk2, rfl, hne⟩
  refine ⟨_, rfl, rfl, _, rfl, ?_⟩
  rw [dec_nat1]
  refine ite2 (fun c => ?_) (fun c => ?_)
  · have hk : pw p m t x k ≠ 1 := by
      intro e
      rw [decide_eq_true e] at c
      exact absurd c (by decide)
    have hk3 : k < p ^ m - 1 := by
      rcases Nat.lt_or_ge k (p ^ m - 1) with h | h
      · exact h
      · have : k = p ^ m - 1 := by lia
        rw [this] at hk
        exact absurd (G.fermat h0 hx) hk
    refine ⟨fun σ' H'' => H'' = H' ∧ σ' = [some (.ref tb), some (Vn x), some (Vn (k + 1)), some (Vn (pw p m t x (k + 1)))], ?_, ?_⟩
    · rintro σ' H'' ⟨rfl, rfl⟩
      refine ⟨_, ?_, rfl, rfl, k + 1, by lia, by lia, rfl, fun i h1 h2 => ?_⟩
      · show p ^ m - (k + 1) < p ^ m - k; lia
      · rcases Nat.lt_or_ge i k with h | h
        · exact hne i h1 h
        · rw [show i = k by lia]; exact hk
    · refine ⟨_, rfl, _, _, rfl, rfl, _, rfl, _, rfl, _, rfl, tb, fa, pa, la, p, m, t, b, pw p m t x k, x, rfl, T, pw_lt hp hm _ _, hx, ?_⟩
      exact ⟨_, _, rfl, rfl, rfl⟩
  · have hk : pw p m t x k = 1 := by
      rcases Nat.decEq (pw p m t x k) 1 with h | h
      · exact absurd (by rw [decide_eq_false h]; rfl) c
      · exact h
    exact ⟨_, rfl, q k ⟨hk1, hk, hne⟩ hk2⟩
theorem atI_last {xs : List V} {v : V} (h : xs[xs.length - 1]? = some v) : atI xs (-1) = some v := by
  have hl : 0 < xs.length := by
    have := (List.getElem?_eq_some_iff.mp h).1; lia
  unfold atI ixN
  rw [if_neg (by decide), if_pos (by lia)]
  show (some _).bind _ = _
  rw [Option.bind_some, ← h]
  congr 1
  lia
end
end My

end
section
set_option Elab.async false
set_option linter.all false
set_option maxRecDepth 100000
set_option maxHeartbeats 4000000
namespace My
open PySem L2 Dg
local macro_rules | `(tactic| walk_at "rd") => `(tactic| repeat (first | refine ⟨_, rfl, ?_⟩ | refine ⟨_, _, rfl, rfl, ?_⟩))
section
variable {p m t : Nat} (G : Good p m t)
include G
theorem pw_half {x k : Nat} (hx : x < p ^ m) : pw p m t x k = mul p m t (if k % 2 = 1 then x else 1) (pw p m t (mul p m t x x) (k / 2)) := by
  have e2 : pw p m t x 2 = mul p m t x x := by show mul p m t (mul p m t 1 x) x = _; rw [one_mul G.hp G.hm hx]
  by_cases c : k % 2 = 1
  · rw [if_pos c, ← e2, ← pw_mul G.hp G.hm]
    rw [show pw p m t x k = pw p m t x (1 + 2 * (k / 2)) by congr 1; lia, pw_add G.hp G.hm, pw_one G.hp G.hm hx]
  · rw [if_neg c, ← e2, ← pw_mul G.hp G.hm, one_mul G.hp G.hm (pw_lt G.hp G.hm _ _)]
    congr 1; lia
end
section
variable {P : Program} {w : World} {mg : Str → Option Value} {base : Heap} {f : Addr} {fd : FuncData}
/-! many_things -/
inductive sp_many (K : PySem.W.Frag) (vs : List V) (H : Hp) (Q : VK) (E : XK) : Prop
  | mk (a : Addr) (p m t : Nat) (c1 : vs = [.ref a]) (c2 : Fld K H a p m t) (c3 : p ≤ 64) (c4 : m ≤ 1000) (c5 : Q (Vn (p ^ m)) H) : sp_many K vs H Q E
theorem sc_many_things : FnScope ["field"] ["field"] (defScope s_many_things) := ⟨rfl, rfl, rfl, by decide +kernel, rfl, by decide +kernel, by decide +kernel⟩
theorem ok_many (B : Bl mg) (h_number_power : Has P w K mg base 1 "number_power" ["base", "many"] sp_number_power) (F : Fun K "many_things" "many_things" s_many_things f fd) : FnOk P w K mg base CX0 2 f fd ["field"] (sp_many K) := by
  refine F.ok sc_many_things (fun vs H Q E h => ?_) (fun cdv A outer s H vs Q E hr h => ?_)
  · obtain ⟨a, p, m, t, rfl, _⟩ := h; rfl
  obtain ⟨a, p, m, t, rfl, hF, hp, hm, q⟩ := h
  refine ⟨_, (~~~((h_number_power<$>((ix_tup<<<(pv 0)<<<pe_int)>=>(ix_tup<<<(pv 0)<<<pe_int)>=>pa_nil))⁻¹)), ?_⟩
  try dsimp only [cxOf]
  refine ⟨_, rfl, a, _, _, _, rfl, rfl, hF, rfl, _, rfl, a, _, _, _, rfl, rfl, hF, rfl, p, m, rfl, hp, hm, q⟩
/-! times_itself -/
inductive sp_itself (K : PySem.W.Frag) (vs : List V) (H : Hp) (Q : VK) (E : XK) : Prop
  | mk (a : Addr) (p m t x n : Nat) (c1 : vs = [.ref a, Vn x, Vn n]) (c2 : Fld K H a p m t) (c3 : Good p m t) (c4 : x < p ^ m) (c5 : Q (Vn (pw p m t x n)) H) : sp_itself K vs H Q E
theorem sc_times_itself : FnScope ["field", "one", "many", "product"] ["field", "one", "many"] (defScope s_times_itself) := ⟨rfl, rfl, rfl, by decide +kernel, rfl, by decide +kernel, by decide +kernel⟩
theorem ok_itself (B : Bl mg) (h_times : Has P w K mg base 3 "times" ["field", "one", "other"] (sp_times K)) (F : Fun K "times_itself" "times_itself" s_times_itself f fd) : FnOk P w K mg base CX0 4 f fd ["field", "one", "many"] (sp_itself K) := by
  refine F.ok sc_times_itself (fun vs H Q E h => ?_) (fun cdv A outer s H vs Q E hr h => ?_)
  · obtain ⟨a, p, m, t, x, n, rfl, _⟩ := h; rfl
  obtain ⟨a, p, m, t, x, n, rfl, hF, G, hx, q⟩ := h
  have hp := G.hp
  have hm := G.hm
  refine ⟨_, ((3<|>sc_times_itself.nd<|>pe_int)<=<(@ps_while _ _ _ _ _ _ PassesOwn.never (op_gt∪(pv 2)∪pe_int) (((op_eq∪(op_mod|||(pv 2)|||pe_int)∪pe_int)*>((~~~(3<|>sc_times_itself.nd<|>(h_times<$>((pv 0)>=>(pv 3)>=>(pv 1)>=>pa_nil)))),pss_nil))<=<(@ps_aug _ _ 2 _ _ _ _ _ _ sc_times_itself.nd rfl (Or.inl rfl) pe_int iop_fdv (by first | exact .inl rfl | exact .inr rfl | assumption))<=<(~~~((op_gt∪(pv 2)∪pe_int)*>((~~~(1<|>sc_times_itself.nd<|>(h_times<$>((pv 0)>=>(pv 1)>=>(pv 1)>=>pa_nil)))),pss_nil)))))<=<(~~~((pv 3)⁻¹))), ?_⟩
  try dsimp only [cxOf]
  let I1 : St → Hp → Prop := fun σ H' => H' = H ∧ Ex3 fun (o k pr : Nat) => An4 (σ = [some (.ref a), some (Vn o), some (Vn k), some (Vn pr)]) (o < p ^ m) (pr < p ^ m) (mul p m t pr (pw p m t o k) = pw p m t x n)
  refine while_go I1
    (fun σ _ => mI σ 2) ⟨rfl, x, n, 1, rfl, hx, one_lt hp hm, one_mul hp hm (pw_lt hp hm _ _)⟩ ?_
  rintro σ H' ⟨rfl, o, k, pr, rfl, ho, hpr, he⟩
  walk_at "rd"
  refine ite2 (fun c => ?_) (fun c => ?_)
  · have c' : 0 < k := by have := of_decide_eq_true c; lia
    refine ⟨fun σ' H'' => H'' = H' ∧ Ex2 fun (o' pr' : Nat) => σ' = [some (.ref a), some (Vn o'), some (Vn (k / 2)), some (Vn pr')] ∧ o' < p ^ m ∧ pr' < p ^ m ∧ mul p m t pr' (pw p m t o' (k / 2)) = pw p m t x n, ?_, ?_⟩
    · rintro σ' H'' ⟨rfl, o', pr', rfl, b1, b2, b3⟩
      exact ⟨_, by show k / 2 < k; exact Nat.div_lt_self c' (by lia), rfl, rfl, o', k / 2, pr', rfl, b1, b2, b3⟩
    let I2 : St → Hp → Prop := fun σ' H'' => H'' = H' ∧ ∃ pr' : Nat, An3 (σ' = [some (.ref a), some (Vn o), some (Vn k), some (Vn pr')]) (pr' < p ^ m) (mul p m t pr' (pw p m t (mul p m t o o) (k / 2)) = pw p m t x n)
    refine seq_cut I2 ?_ ?_
    · rintro σ' H'' ⟨rfl, pr', rfl, hpr', he'⟩
      walk_at "rd"
      refine ⟨⟨by show (0 : Int) < 2; decide, by show (2 : Int) < 2 ^ 64; decide⟩, ?_⟩
      walk_at "rd"
      refine ite2 (fun c2 => ?_) (fun c2 => ?_)
      · refine ⟨_, rfl, _, rfl, _, rfl, a, p, m, t, o, o, rfl, hF, hp, hm, G.hq, G.top, ho, ho, fun r br hr => ?_⟩
        cases mul_of hp hm br hr
        exact ⟨rfl, _, pr', rfl, mul_lt hp hm _ _, hpr', he'⟩
      · have k0 : k / 2 = 0 := by
          have := of_decide_eq_false (Bool.eq_false_iff.mpr c2)
          have e : ((k / 2 : Nat) : Int) = (k : Int) / 2 := rfl
          lia
        rw [k0] at he'
        refine ⟨rfl, o, pr', rfl, ho, hpr', ?_⟩
        rw [k0]; exact he'
    · intro D' _ _ _ hD'
      refine ⟨_, rfl, _, _, rfl, rfl, by show (0 : Int) < 2; decide, rfl, _, rfl, ?_⟩
      have ed : decide (V.int ((k : Int) % 2) = V.int 1) = decide (k % 2 = 1) := decide_eq_decide.mpr ⟨fun e => by injection e with e; lia, fun e => by congr 1; lia⟩
      rw [ed]
      rw [pw_half G ho, ← mul_assoc hp hm] at he
      refine ite2 (fun c2 => ?_) (fun c2 => ?_)
      · have c3 : k % 2 = 1 := of_decide_eq_true c2
        rw [if_pos c3] at he
        refine ⟨_, rfl, _, rfl, _, rfl, a, p, m, t, pr, o, rfl, hF, hp, hm, G.hq, G.top, hpr, ho, fun r br hr => ?_⟩
        cases mul_of hp hm br hr
        exact hD' _ _ ⟨rfl, _, rfl, mul_lt hp hm _ _, he⟩
      · have c3 : ¬ k % 2 = 1 := fun h => c2 (decide_eq_true h)
        rw [if_neg c3, mul_one hp hm hpr] at he
        exact hD' _ _ ⟨rfl, _, rfl, hpr, he⟩
  · have c' : k = 0 := by have := of_decide_eq_false (Bool.eq_false_iff.mpr c); lia
    subst c'
    refine ⟨_, rfl, ?_⟩
    have e : pr = pw p m t x n := by rw [← he]; exact (mul_one hp hm hpr).symm
    rw [e]
    exact q
/-! over -/
/-! word_times -/
/-! the law's power, either way -/
end
end My

end
section
set_option Elab.async false
set_option linter.all false
set_option maxRecDepth 100000
set_option maxHeartbeats 4000000
namespace My
open PySem L2 Dg
local macro_rules | `(tactic| walk_at "rd") => `(tactic| repeat (first | refine ⟨_, rfl, ?_⟩ | refine ⟨_, _, rfl, rfl, ?_⟩))
/-! alike, kind by kind -/
end My

end
section
set_option Elab.async false
set_option linter.all false
set_option maxRecDepth 100000
set_option maxHeartbeats 4000000
namespace My
open PySem L2 Dg
local macro_rules | `(tactic| walk_at "rd") => `(tactic| repeat (first | refine ⟨_, rfl, ?_⟩ | refine ⟨_, _, rfl, rfl, ?_⟩))
section
variable {p m t : Nat} (G : Good p m t)
include G
theorem Ord.dvd {x n k : Nat} (hx : x < p ^ m) (o : Ord p m t x n) (h : pw p m t x k = 1) : k % n = 0 := by
  have hp := G.hp
  have hm := G.hm
  rcases Nat.eq_zero_or_pos (k % n) with c | c
  · exact c
  · have e : pw p m t x (n * (k / n) + k % n) = 1 := by rw [Nat.div_add_mod]; exact h
    rw [pw_add hp hm, pw_mul hp hm, o.one, one_pw hp hm, one_mul hp hm (pw_lt hp hm _ _)] at e
    exact absurd e (o.min _ c (Nat.mod_lt _ (by have := o.pos; lia)))
/-- the powers of q go round by n -/
theorem Ord.round {x n few : Nat} (h0 : 0 < x) (hx : x < p ^ m) (o : Ord p m t x n) (hf : m % few = 0) (hf1 : 1 ≤ few) : (p ^ few) ^ (m / few) % n = 1 % n := by
  have hp := G.hp
  have hm := G.hm
  have h1 := Ord.dvd G hx o (G.fermat h0 hx)
  have hQ := one_lt hp hm
  have e : few * (m / few) = m := by have := Nat.div_add_mod m few; rw [hf] at this; lia
  rw [← Nat.pow_mul, e]
  obtain ⟨c, hc⟩ := Nat.dvd_of_mod_eq_zero h1
  rw [show p ^ m = 1 + n * c by lia, Nat.add_mul_mod_self_left]
end
section
variable {P : Program} {w : World} {mg : Str → Option Value} {base : Heap} {f : Addr} {fd : FuncData}
/-! ring -/
noncomputable def ringL (i n q L : Nat) : List Nat := (List.range L).map fun j => i * q ^ j % n
theorem ringL_get {i n q L j : Nat} (h : j < L) : (ringL i n q L).getD j 0 = i * q ^ j % n := by unfold ringL; rw [List.getD_eq_getElem?_getD, List.getElem?_map, List.getElem?_range h]; rfl
theorem ring_back {q e n : Nat} (hr : q ^ e % n = 1 % n) (he : 1 ≤ e) (i a : Nat) : i * q ^ a * q ^ (e * a - a) % n = i % n := by
  have h : a ≤ e * a := Nat.le_mul_of_pos_left a he
  rw [Nat.mul_assoc, ← Nat.pow_add, show a + (e * a - a) = e * a by lia, Nat.pow_mul, Nat.mul_mod, Nat.pow_mod, hr, ← Nat.pow_mod, Nat.one_pow, ← Nat.mul_mod, Nat.mul_one]
theorem ring_nodup {i n q e L : Nat} (hr : q ^ e % n = 1 % n) (he : 1 ≤ e) (h : ∀ j, 0 < j → j < L → i * q ^ j % n ≠ i % n) : (ringL i n q L).Nodup := by
  refine nodup_range_map _ fun a b ha hb e1 => ?_
  have key : ∀ a b : Nat, a < b → b < L → i * q ^ a % n = i * q ^ b % n → False := fun a b hab hb e1 => by
    refine h (b - a) (by lia) (by lia) ?_
    have e2 := ring_back hr he i a
    rw [Nat.mul_mod, e1, ← Nat.mul_mod, show i * q ^ b = i * q ^ (b - a) * q ^ a by rw [Nat.mul_assoc, ← Nat.pow_add, show b - a + a = b by lia], ring_back hr he] at e2
    exact e2
  rcases Nat.lt_trichotomy a b with h1 | h1 | h1
  · exact (key a b h1 hb e1).elim
  · exact h1
  · exact (key b a h1 ha e1.symm).elim
theorem ring_all {i n q L : Nat} (heq : i * q ^ L % n = i * q ^ 0 % n) (hL : 0 < L) (j : Nat) : i * q ^ j % n ∈ ringL i n q L := by
  induction j with
  | zero => exact List.mem_map.mpr ⟨0, List.mem_range.mpr hL, rfl⟩
  | succ j ih =>
    obtain ⟨k, hk, ek⟩ := List.mem_map.mp ih
    have hk := List.mem_range.mp hk
    have e2 : i * q ^ (j + 1) % n = i * q ^ (k + 1) % n := by
      rw [Nat.pow_succ, Nat.pow_succ, ← Nat.mul_assoc, ← Nat.mul_assoc, Nat.mul_mod, ← ek, ← Nat.mul_mod]
    rw [e2]
    by_cases c : k + 1 < L
    · exact List.mem_map.mpr ⟨k + 1, List.mem_range.mpr c, rfl⟩
    · rw [show k + 1 = L by lia, heq]
      exact List.mem_map.mpr ⟨0, List.mem_range.mpr hL, rfl⟩
inductive sp_lring (vs : List V) (H : Hp) (Q : VK) (E : XK) : Prop
  | mk (i n q e : Nat) (c1 : vs = [Vn i, Vn n, Vn q]) (c2 : 0 < n) (c3 : n ≤ 64) (c4 : q ≤ 64) (c5 : 1 ≤ e) (c6 : e ≤ 6) (c7 : q ^ e % n = 1 % n) (c8 : ∀ r (ns : List Nat) H', Same H H' → H r = none → H' r = some (.lst (ns.map Vn)) → 0 < ns.length → ns.length ≤ 6 → (∀ x ∈ ns, x < n) → (∀ x ∈ ns, x * q % n ∈ ns) → ns.Nodup → (∀ x ∈ ns, ∃ j, x = i * q ^ j % n) → (∀ j, i * q ^ j % n ∈ ns) → Q (.ref r) H') : sp_lring vs H Q E
theorem sc__law_ring : FnScope ["_law_i", "_law_n", "_law_q", "_law_found"] ["_law_i", "_law_n", "_law_q"] (defScope s__law_ring) := ⟨rfl, rfl, rfl, by decide +kernel, rfl, by decide +kernel, by decide +kernel⟩
theorem ok_lring (B : Bl mg) (F : Fun K "_law_ring" "_law_ring" s__law_ring f fd) : FnOk P w K mg base CX0 1 f fd ["_law_i", "_law_n", "_law_q"] sp_lring := by
  refine F.ok sc__law_ring (fun vs H Q E h => ?_) (fun cdv A outer s H vs Q E hr h => ?_)
  · obtain ⟨i, n, q, e, rfl, _⟩ := h; rfl
  obtain ⟨i, n, q, e, rfl, hn, hn2, hq, he1, he2, hr1, q'⟩ := h
  refine ⟨_, ((3<|>sc__law_ring.nd<|>(@pe_lst _ _ _ _ ((op_mod|||(pv 0)|||(pv 1))>=>pa_nil)))<=<(@ps_while _ _ _ _ _ _ PassesOwn.never (op_ne∪(op_mod|||(op_mul|||(ix_list<<<(pv 3)<<<(@pe_un _ _ _ _ _ _ un_neg pe_int))|||(pv 2))|||(pv 1))∪(ix_list<<<(pv 3)<<<pe_int)) (~~~(@ps_expr _ _ _ _ (@pe_bm _ _ _ _ _ _ _ _ _ _ _ _ PySem.F.plainAttrs_list PySem.F.slot_list_append PySem.F.type_list_append mt_append (pv 3) ((op_mod|||(op_mul|||(ix_list<<<(pv 3)<<<(@pe_un _ _ _ _ _ _ un_neg pe_int))|||(pv 2))|||(pv 1))>=>pa_nil) (by rfl) (by rfl) (by rfl) (by rfl) (by rfl)) (by rfl))))<=<(~~~((pv 3)⁻¹))), ?_⟩
  try dsimp only [cxOf]
  refine ⟨_, rfl, _, rfl, _, _, rfl, rfl, by show (0 : Int) < n; lia, szl 1, fun l hl => ?_⟩
  dsimp only [gName]
  let I1 : St → Hp → Prop := fun σ H' => ∃ L : Nat, An5 (1 ≤ L) (L ≤ e) (∀ j, 0 < j → j < L → i * q ^ j % n ≠ i % n) (H' = upd H l (.lst ((ringL i n q L).map Vn))) (σ = [some (Vn i), some (Vn n), some (Vn q), some (.ref l)])
  refine while_go I1 (fun _ H' => 7 - lenAt H' l) ⟨1, Nat.le_refl _, he1, fun j _ _ => by lia, by simp [ringL]; rfl, rfl⟩ ?_
  rintro σ H' ⟨L, h1, h2, hne0, rfl, rfl⟩
  have el : upd H l (.lst ((ringL i n q L).map Vn)) l = some (.lst ((ringL i n q L).map Vn)) := upd_same
  have ll : (ringL i n q L).length = L := by simp [ringL]
  have hlast : atI ((ringL i n q L).map Vn) (-1) = some (Vn (i * q ^ (L - 1) % n)) := atI_last (by rw [List.length_map, ll, map_get (by lia), ringL_get (by lia)])
  have hfirst : atI ((ringL i n q L).map Vn) 0 = some (Vn (i * q ^ 0 % n)) := atI_nat (j := 0) (by rw [map_get (by lia), ringL_get (by lia)])
  have hml : i * q ^ (L - 1) % n < n := Nat.mod_lt _ hn
  refine ⟨_, rfl, _, rfl, l, _, _, _, rfl, rfl, SqL.of el, hlast, _, rfl, _, _, rfl, rfl, .inl ⟨by show -(2 ^ 64 : Int) < ((i * q ^ (L - 1) % n : Nat) : Int); lia, by show ((i * q ^ (L - 1) % n : Nat) : Int) < 2 ^ 64; lia⟩, ?_⟩
  refine ⟨_, rfl, _, _, rfl, rfl, by show (0 : Int) < n; lia, ?_⟩
  refine ⟨_, rfl, l, _, _, _, rfl, rfl, SqL.of el, hfirst, rfl, _, rfl, ?_⟩
  have en : (i * q ^ (L - 1) % n) * q % n = i * q ^ L % n := by
    rw [Nat.mod_mul_mod, Nat.mul_assoc, ← Nat.pow_succ, show (L - 1).succ = L by lia]
  have e0 : i * q ^ 0 % n = i % n := by rw [Nat.pow_zero, Nat.mul_one]
  refine ite2 (fun c => ?_) (fun c => ?_)
  · have hne : i * q ^ L % n ≠ i % n := by
      intro h
      have : (V.int ((((i * q ^ (L - 1) % n : Nat) : Int) * (q : Int)) % (n : Int))) = Vn (i * q ^ 0 % n) := by
        show V.int _ = V.int _
        congr 1
        rw [e0, ← h, ← en]; rfl
      rw [decide_eq_true this] at c
      exact absurd c (by decide)
    have hL : L < e := by
      rcases Nat.lt_or_ge L e with h | h
      · exact h
      · have hle : L = e := by lia
        rw [hle] at hne
        refine absurd ?_ hne
        rw [Nat.mul_mod, hr1, ← Nat.mul_mod, Nat.mul_one]
    refine ⟨fun σ' H' => H' = upd H l (.lst ((ringL i n q (L + 1)).map Vn)) ∧ σ' = [some (Vn i), some (Vn n), some (Vn q), some (.ref l)], ?_, ?_⟩
    · rintro σ' H' ⟨rfl, rfl⟩
      refine ⟨_, ?_, rfl, L + 1, by lia, by lia, fun j j0 j1 => ?_, rfl, rfl⟩
      case refine_2 =>
        rcases Nat.lt_or_ge j L with h | h
        · exact hne0 j j0 h
        · rw [show j = L by lia]; exact hne
      rw [lenAt_of upd_same, lenAt_of upd_same, List.length_map, List.length_map, ll, show (ringL i n q (L + 1)).length = L + 1 by simp [ringL]]
      lia
    · refine ⟨_, rfl, .inl ⟨rfl, _, SqL.of el⟩, ?_⟩
      refine ⟨_, rfl, _, rfl, l, _, _, _, rfl, rfl, SqL.of el, hlast, _, rfl, _, _, rfl, rfl, .inl ⟨by show -(2 ^ 64 : Int) < ((i * q ^ (L - 1) % n : Nat) : Int); lia, by show ((i * q ^ (L - 1) % n : Nat) : Int) < 2 ^ 64; lia⟩, ?_⟩
      refine ⟨_, rfl, _, _, rfl, rfl, by show (0 : Int) < n; lia, ?_⟩
      refine ⟨l, _, _, rfl, rfl, el, by rw [List.length_map, ll]; exact small1000 (by lia), ?_, rfl⟩
      rw [upd_upd]
      congr 2
      have e1 : ringL i n q (L + 1) = ringL i n q L ++ [i * q ^ L % n] := by unfold ringL; rw [List.range_succ, List.map_append]; rfl
      rw [e1, List.map_append, ← en]; rfl
  · have heq : i * q ^ L % n = i * q ^ 0 % n := by
      have h : decide (V.int ((((i * q ^ (L - 1) % n : Nat) : Int) * (q : Int)) % (n : Int)) = Vn (i * q ^ 0 % n)) = true := by
        rcases hb : decide (V.int ((((i * q ^ (L - 1) % n : Nat) : Int) * (q : Int)) % (n : Int)) = Vn (i * q ^ 0 % n)) with _ | _
        · exact absurd (show (!decide (V.int ((((i * q ^ (L - 1) % n : Nat) : Int) * (q : Int)) % (n : Int)) = Vn (i * q ^ 0 % n))) = true by rw [hb]; rfl) c
        · rfl
      have h2 := V.int.inj (of_decide_eq_true h)
      rw [← en]
      exact Int.ofNat.inj h2
    refine ⟨_, rfl, q' l (ringL i n q L) _ (same_new hl _) hl el (by rw [ll]; lia) (by rw [ll]; lia) (fun x hx => ?_) (fun x hx => ?_) ?_ (fun x hx => ?_) (ring_all heq (by lia))⟩
    rotate_left 2
    · refine ring_nodup hr1 (by lia) hne0
    · obtain ⟨j, _, rfl⟩ := List.mem_map.mp hx
      exact ⟨j, rfl⟩
    · obtain ⟨j, _, rfl⟩ := List.mem_map.mp hx
      exact Nat.mod_lt _ hn
    · obtain ⟨j, hj, rfl⟩ := List.mem_map.mp hx
      have hj := List.mem_range.mp hj
      have e2 : i * q ^ j % n * q % n = i * q ^ (j + 1) % n := by rw [Nat.mod_mul_mod, Nat.mul_assoc, ← Nat.pow_succ]
      rw [e2]
      by_cases cj : j + 1 < L
      · exact List.mem_map.mpr ⟨j + 1, List.mem_range.mpr cj, rfl⟩
      · rw [show j + 1 = L by lia, heq]
        exact List.mem_map.mpr ⟨0, List.mem_range.mpr (by lia), rfl⟩
/-! wheel -/
theorem dec_mod0 (a b : Nat) : decide (V.int ((a : Int) % (b : Int)) = V.int 0) = decide (a % b = 0) :=
  decide_eq_decide.mpr ⟨fun e => Int.ofNat.inj (show Int.ofNat (a % b) = Int.ofNat 0 from V.int.inj e), fun e => congrArg V.int (show Int.ofNat (a % b) = Int.ofNat 0 from congrArg Int.ofNat e)⟩
structure Whl (p m t few root n : Nat) (marks : List Nat) : Prop where
  few1 : 1 ≤ few
  fewm : m % few = 0
  r0 : 0 < root
  rq : root < p ^ m
  ord : Ord p m t root n
  nq : n ≤ p ^ m - 1
  asc : marks.Pairwise (· < ·)
  lt : ∀ x ∈ marks, x < n
  closed : ∀ x ∈ marks, x * p ^ few % n ∈ marks
structure WhAt (H : Hp) (wh fa mk : Addr) (few root : Nat) (marks : List Nat) : Prop where
  w : H wh = some (.tup [.ref fa, Vn few, Vn root, .ref mk])
  k : H mk = some (.tup (marks.map Vn))
theorem WhAt.same {H H' : Hp} {wh fa mk : Addr} {few root : Nat} {marks : List Nat} (h : WhAt H wh fa mk few root marks) (s : Same H H') : WhAt H' wh fa mk few root marks := ⟨s _ _ h.w, s _ _ h.k⟩
/-- a round and its thing -/
noncomputable def PairAt2 (p m t : Nat) (H : Hp) (a : Addr) : Prop := Ex2 fun (n x : Nat) => H a = some (.tup [Vn n, Vn x]) ∧ Ord p m t x n ∧ n ≤ p ^ m - 1 ∧ 0 < x ∧ x < p ^ m
theorem PairAt2.same {p m t : Nat} {H H' : Hp} {a : Addr} (h : PairAt2 p m t H a) (s : Same H H') : PairAt2 p m t H' a := by obtain ⟨n, x, h1, r⟩ := h; exact ⟨n, x, s _ _ h1, r⟩
theorem Pu.tup_ne {H : Hp} {pu g a : Addr} {xs : List V} (h : Pu H pu g) (e : H a = some (.tup xs)) : a ≠ pu ∧ a ≠ g := by
  obtain ⟨ns, s, t, h1, h2⟩ := h
  exact ⟨fun q => (by rw [q, h1] at e; cases e), fun q => (by rw [q, h2] at e; cases e)⟩
noncomputable def pn (H : Hp) (a : Addr) : Nat := match H a with
  | some (.tup (.int n :: _)) => n.toNat
  | _ => 0
theorem pn_of {H : Hp} {a : Addr} {n x : Nat} (h : H a = some (.tup [Vn n, Vn x])) : pn H a = n := by unfold pn; rw [h]; rfl
theorem take_more {α : Type} {xs : List α} {k : Nat} {a : α} (h : xs[k]? = some a) : xs.take (k + 1) = xs.take k ++ [a] := by
  obtain ⟨hk, e⟩ := List.getElem?_eq_some_iff.mp h
  rw [List.take_succ_eq_append_getElem hk, e]
theorem ref_get {ts : List Addr} {k : Nat} {z : V} (h : (ts.map V.ref)[k]? = some z) : ∃ a, ts[k]? = some a ∧ z = .ref a := by
  rw [List.getElem?_map] at h
  rcases e : ts[k]? with _ | a
  · rw [e] at h; cases h
  · rw [e] at h; exact ⟨a, rfl, (Option.some.inj h).symm⟩
inductive sp_lwheel (vs : List V) (H : Hp) (Q : VK) (E : XK) : Prop
  | mk (pu g : Addr) (most : Nat) (c1 : vs = [.ref pu, Vn most]) (c2 : Pu H pu g) (c3 : 1 ≤ most) (c4 : ∀ (r tb fa pa la wh mk : Addr) (p m t b few root n : Nat) (marks : List Nat) H', H' r = some (.tup [.ref tb, .ref wh]) → Tab H' tb fa pa la p m t b → Apart pu g tb fa pa la → WhAt H' wh fa mk few root marks → (wh ≠ pu ∧ wh ≠ g) → (mk ≠ pu ∧ mk ≠ g) → (r ≠ pu ∧ r ≠ g) → Whl p m t few root n marks → n ≤ most → Pu H' pu g → SameX pu g H H' → Q (.ref r) H') : sp_lwheel vs H Q E
theorem sc__law_wheel : FnScope ["_law_purse_here", "_law_most", "_law_way", "_law_far", "_law_table_here", "_law_fews", "_law_few", "_law_q", "_law_rounds", "_law_greatest", "_law_n", "_law_root", "_law_marks", "_law_first", "_law_many", "_law_k"] ["_law_purse_here", "_law_most"] (defScope s__law_wheel) := ⟨rfl, rfl, rfl, by decide +kernel, rfl, by decide +kernel, by decide +kernel⟩
theorem ok_lwheel (B : Bl mg) (h__law_pick : Has P w K mg base 1 "_law_pick" ["_law_purse_here", "_law_many"] sp_pick) (h__law_field : Has P w K mg base 4 "_law_field" ["_law_purse_here"] sp_field) (h__law_table : Has P w K mg base 3 "_law_table" ["_law_field_here"] sp_table) (h__law_raised : Has P w K mg base 1 "_law_raised" ["_law_one", "_law_many"] sp_number_power)
    (h__law_round : Has P w K mg base 2 "_law_round" ["_law_table_here", "_law_one"] sp_lround) (h__law_ring : Has P w K mg base 1 "_law_ring" ["_law_i", "_law_n", "_law_q"] sp_lring) (F : Fun K "_law_wheel" "_law_wheel" s__law_wheel f fd) : FnOk P w K mg base CX0 5 f fd ["_law_purse_here", "_law_most"] sp_lwheel := by
  refine F.ok sc__law_wheel (fun vs H Q E h => ?_) (fun cdv A outer s H vs Q E hr h => ?_)
  · obtain ⟨pu, g, most, rfl, _⟩ := h; rfl
  obtain ⟨pu, g, most, rfl, hP, hmost, q⟩ := h
  refine ⟨_, ((@ps_par _ _ 2 3 _ _ _ _ _ _ _ _ _ _ _ rfl sc__law_wheel.nd rfl rfl (by decide) rfl rfl ((h__law_pick<$>((pv 0)>=>pe_int>=>pa_nil))>=>(h__law_pick<$>((pv 0)>=>pe_int>=>pa_nil))>=>pa_nil) rfl (by rfl))<=<(4<|>sc__law_wheel.nd<|>(h__law_table<$>((h__law_field<$>((pv 0)>=>pa_nil))>=>pa_nil)))<=<(@ps_setC _ 5 _ _ _ _ _ _ _ _ _ ["_law_few"] ["_law_table_here"] [4] _ _ _ _ sc__law_wheel.nd rfl (Or.inl rfl) (id (α := CSc ["_law_purse_here", "_law_most", "_law_way", "_law_far", "_law_table_here", "_law_fews", "_law_few", "_law_q", "_law_rounds", "_law_greatest", "_law_n", "_law_root", "_law_marks", "_law_first", "_law_many", "_law_k"] (defScope s__law_wheel) ["_law_few"] ["_law_table_here"] [4] _) ⟨by rfl, by decide +kernel, by decide +kernel, by decide +kernel, by decide +kernel, by rfl, by decide +kernel⟩) rfl (@pi_range2 _ _ _ _ _ _ _ rfl (B "range" (by decide)) (pe_int>=>(op_add|||((pv 4)⊃pe_str)|||pe_int)>=>pa_nil) (by rfl) (by rfl)) (fun cl C fp s H => (0⊇["_law_few", "_law_table_here"])) (fun _ _ _ _ _ => (@pifs_one _ _ _ (op_eq∪(op_mod|||((pv 1)⊃pe_str)|||(pv 0))∪pe_int))) (fun _ _ _ _ _ => (pv 0)) (by rfl) (by intro _; rfl) (by first | exact .inl rfl | exact .inr rfl | assumption))<=<(6<|>sc__law_wheel.nd<|>(ix_list<<<(pv 5)<<<(h__law_pick<$>((pv 0)>=>(call_len_seq>>>("len",PySem.boot_len,((pv 5)>=>pa_nil)))>=>pa_nil))))<=<(7<|>sc__law_wheel.nd<|>(h__law_raised<$>(((pv 4)⊃pe_str)>=>(pv 6)>=>pa_nil)))<=<(@ps_setC _ 8 _ _ _ _ _ _ _ _ _ ["_law_one"] ["_law_table_here"] [4] _ _ _ _ sc__law_wheel.nd rfl (Or.inl rfl) (id (α := CSc ["_law_purse_here", "_law_most", "_law_way", "_law_far", "_law_table_here", "_law_fews", "_law_few", "_law_q", "_law_rounds", "_law_greatest", "_law_n", "_law_root", "_law_marks", "_law_first", "_law_many", "_law_k"] (defScope s__law_wheel) ["_law_one"] ["_law_table_here"] [4] _) ⟨by rfl, by decide +kernel, by decide +kernel, by decide +kernel, by decide +kernel, by rfl, by decide +kernel⟩) rfl (@pi_range2 _ _ _ _ _ _ _ rfl (B "range" (by decide)) (pe_int>=>((pv 4)⊃pe_str)>=>pa_nil) (by rfl) (by rfl)) (fun cl C fp s H => (0⊇["_law_one", "_law_table_here"])) (fun _ _ _ _ _ => pifs_nil) (fun _ _ _ _ _ => (@pe_tup _ _ _ _ _ ((h__law_round<$>((pv 1)>=>(pv 0)>=>pa_nil))>=>(pv 0)>=>pa_nil))) (by rfl) (by intro _; rfl) (by first | exact .inl rfl | exact .inr rfl | assumption))<=<(@ps_setC _ 8 _ _ _ _ _ _ _ _ _ ["_law_pair"] ["_law_most"] [1] _ _ _ _ sc__law_wheel.nd rfl (Or.inl rfl) (id (α := CSc ["_law_purse_here", "_law_most", "_law_way", "_law_far", "_law_table_here", "_law_fews", "_law_few", "_law_q", "_law_rounds", "_law_greatest", "_law_n", "_law_root", "_law_marks", "_law_first", "_law_many", "_law_k"] (defScope s__law_wheel) ["_law_pair"] ["_law_most"] [1] _) ⟨by rfl, by decide +kernel, by decide +kernel, by decide +kernel, by decide +kernel, by rfl, by decide +kernel⟩) rfl (@pi_list _ _ _ _ (pv 8)) (fun cl C fp s H => (0⊇["_law_pair", "_law_most"])) (fun _ _ _ _ _ => (@pifs_one _ _ _ (op_le∪((ix_tupK (K := K) rfl)<<<(pv 0)<<<pe_int)∪(pv 1)))) (fun _ _ _ _ _ => (pv 0)) (by rfl) (by intro _; rfl) (by first | exact .inl rfl | exact .inr rfl | assumption))<=<(9<|>sc__law_wheel.nd<|>((call_maxL rfl)>>>("max",boot_bi_max,((["_law_pair"]⊆([],[],["_law_purse_here", "_law_most", "_law_way", "_law_far", "_law_table_here", "_law_fews", "_law_few", "_law_q", "_law_rounds", "_law_greatest", "_law_n", "_law_root", "_law_marks", "_law_first", "_law_many", "_law_k"],s__law_wheel,(@pi_list _ _ _ _ (pv 8)),(0⊇["_law_pair"]),pifs_nil,((ix_tupK (K := K) rfl)<<<(pv 0)<<<pe_int)))>=>pa_nil))))<=<((op_gt∪(pv 3)∪pe_int)*>((~~~(@ps_setC _ 8 _ _ _ _ _ _ _ _ _ ["_law_pair"] ["_law_greatest"] [9] _ _ _ _ sc__law_wheel.nd rfl (Or.inl rfl) (id (α := CSc ["_law_purse_here", "_law_most", "_law_way", "_law_far", "_law_table_here", "_law_fews", "_law_few", "_law_q", "_law_rounds", "_law_greatest", "_law_n", "_law_root", "_law_marks", "_law_first", "_law_many", "_law_k"] (defScope s__law_wheel) ["_law_pair"] ["_law_greatest"] [9] _) ⟨by rfl, by decide +kernel, by decide +kernel, by decide +kernel, by decide +kernel, by rfl, by decide +kernel⟩) rfl (@pi_list _ _ _ _ (pv 8)) (fun cl C fp s H => (0⊇["_law_pair", "_law_greatest"])) (fun _ _ _ _ _ => (@pifs_one _ _ _ (op_eq∪((ix_tupK (K := K) rfl)<<<(pv 0)<<<pe_int)∪(pv 1)))) (fun _ _ _ _ _ => (pv 0)) (by rfl) (by intro _; rfl) (by first | exact .inl rfl | exact .inr rfl | assumption))),pss_nil))<=<((ix_list<<<(pv 8)<<<(h__law_pick<$>((pv 0)>=>(call_len_seq>>>("len",PySem.boot_len,((pv 8)>=>pa_nil)))>=>pa_nil)))≈((10&&&sc__law_wheel.nd)∩((11&&&sc__law_wheel.nd)∩pgs_nil)))<=<(12<|>sc__law_wheel.nd<|>(@pe_lst _ _ _ _ pa_nil))<=<((op_eq∪(pv 2)∪pe_int)*>((~~~(12<|>sc__law_wheel.nd<|>((call_list_rng rfl)<*("list",boot_ty_list,((@pe_range1 _ _ _ _ _ rfl (B "range" (by decide)) ((pv 10)>=>pa_nil) (by rfl))>=>pa_nil))))),(~~~((op_eq∪(pv 2)∪pe_int)*>((~~~(12<|>sc__law_wheel.nd<|>(h__law_ring<$>((h__law_pick<$>((pv 0)>=>(pv 10)>=>pa_nil))>=>(pv 10)>=>(pv 7)>=>pa_nil)))),(~~~((op_gt∪(pv 2)∪pe_int)*>(((@ps_par _ _ 13 14 _ _ _ _ _ _ _ _ _ _ _ rfl sc__law_wheel.nd rfl rfl (by decide) rfl rfl ((h__law_pick<$>((pv 0)>=>(pv 10)>=>pa_nil))>=>(h__law_pick<$>((pv 0)>=>(pv 10)>=>pa_nil))>=>pa_nil) rfl (by rfl))<=<(~~~((↑((pv 14)>=>pa_nil))<&>((15&&&sc__law_wheel.nd),(~~~((@PW.pt _ _ _ (@pw_or _ _ _ _ _ _ _ (op_gt∪(pv 2)∪pe_int) (@pw_or1 _ _ _ _ (op_eq∪(h__law_pick<$>((pv 0)>=>pe_int>=>pa_nil))∪pe_int))))*>((~~~(12<|>sc__law_wheel.nd<|>(op_cat|||(pv 12)|||(h__law_ring<$>((op_add|||(pv 13)|||(pv 15))>=>(pv 10)>=>(pv 7)>=>pa_nil))))),pss_nil))))))),pss_nil))))))))<=<(~~~((@pe_tup _ _ _ _ _ ((pv 4)>=>(@pe_tup _ _ _ _ _ (((pv 4)⊃pe_str)>=>(pv 6)>=>(pv 11)>=>(call_tuple_of<*("tuple",boot_ty_tuple,((@pe_sortset _ _ _ _ _ _ _ rfl rfl (B "sorted" (by decide)) rfl (B "set" (by decide)) (pv 12) (by rfl) (by rfl))>=>pa_nil)))>=>pa_nil))>=>pa_nil))⁻¹))), ?_⟩
  try dsimp only [cxOf]
  refine ⟨_, rfl, pu, g, 6, rfl, hP, by lia, by lia, fun way H1 hway hP1 sx1 => ?_⟩
  refine ⟨_, rfl, pu, g, 3, rfl, hP1, by lia, by lia, fun far H2 hfar hP2 sx2 => ?_⟩
  refine ⟨_, _, rfl, ?_⟩
  refine ⟨_, rfl, pu, g, rfl, hP2, fun fa p m t H3 nf1 nf2 nf ef G hP3 sx3 => ?_⟩
  refine ⟨fa, p, m, t, rfl, ef, G, fun tb pa la b H4 ntb npa nla T4 s4 => ?_⟩
  have hP4 := hP3.same s4
  have ap : Apart pu g tb fa pa la := ⟨(hP3.lt ntb).1, (hP3.lt ntb).2, nf1, nf2, (hP3.lt npa).1, (hP3.lt npa).2, (hP3.lt nla).1, (hP3.lt nla).2⟩
  have sx4 := (sx1.trans (sx2.trans sx3)).trans (Same.x s4)
  have hp := G.hp
  have hm := G.hm
  have hQ := G.hq
  have hQ2 := one_lt hp hm
  have hm6 := m_le hp hQ
  -- fews
  refine ⟨_, rfl, tb, _, rfl, T4.get tab_m, _, _, rfl, rfl, ?_⟩
  refine ⟨1, ((m + 1 : Nat) : Int), rfl, by lia, ?_⟩
  refine comp_any seqs_range (fun k acc H' => H' = H4 ∧ ∃ fs : List Nat, acc = fs.map Vn ∧ (∀ f ∈ fs, 1 ≤ f ∧ m % f = 0) ∧ fs.length ≤ k ∧ (0 < k → 0 < fs.length)) ⟨rfl, ([] : List Nat), rfl, fun f hf => absurd hf (by simp), Nat.le_refl _, fun h => absurd h (Nat.lt_irrefl _)⟩ (fun _ _ _ _ _ => trivial) ?_ ?_ ?_
  · rintro k acc H' hk ⟨_, fs, rfl, _, hl, _⟩
    rw [List.length_map]; exact small1000 (by lia)
  · rintro k acc x H' H'' hk ⟨rfl, fs, rfl, hfs, hl, h0⟩ ⟨rfl, rfl⟩
    refine ⟨_, rfl, tb, _, rfl, T4.get tab_m, _, rfl, _, _, rfl, rfl, by show (0 : Int) < 1 + (k : Int); lia, rfl, _, rfl, ?_⟩
    have ed : decide (V.int ((m : Int) % (1 + (k : Int))) = V.int 0) = decide (m % (1 + k) = 0) := by rw [show (1 + (k : Int)) = ((1 + k : Nat) : Int) by lia]; exact dec_mod0 _ _
    refine ite2 (fun c => ?_) (fun c => ?_)
    · have c1 : m % (1 + k) = 0 := by rw [ed] at c; exact of_decide_eq_true c
      refine ⟨_, rfl, rfl, fs ++ [1 + k], ?_, ?_, by simp; lia, fun _ => by simp⟩
      · rw [List.map_append, show V.int (1 + (k : Int)) = Vn (1 + k) from ints_eq (by lia)]; rfl
      · intro f hf
        rcases List.mem_append.mp hf with h | h
        · exact hfs f h
        · cases List.mem_singleton.mp h; exact ⟨by lia, c1⟩
    · refine ⟨rfl, fs, rfl, hfs, by lia, fun _ => ?_⟩
      by_cases c0 : k = 0
      · subst c0
        refine absurd ?_ c
        rw [ed, decide_eq_true (by show m % 1 = 0; exact Nat.mod_one m)]
      · exact h0 (by lia)
  rintro acc H5 ⟨rfl, fs, rfl, hfs, hfl, hf0⟩ fl hfl'
  have hfl2 : fs.length ≤ m := by lia
  have hf1 : 0 < fs.length := hf0 (by lia)
  have s5 := same_new hfl' (.lst (fs.map Vn))
  have T5 := T4.same s5
  have hP5 := hP4.same s5
  have nfl := hP4.lt hfl'
  have e5 : upd H5 fl (.lst (fs.map Vn)) fl = some (.lst (fs.map Vn)) := upd_same
  have sx5 := sx4.trans (Same.x s5)
  dsimp only [gName]
  generalize upd H5 fl (.lst (fs.map Vn)) = H5' at s5 T5 hP5 e5 sx5 ⊢
  refine ⟨_, rfl, _, rfl, _, rfl, fl, _, rfl, .inl (SqL.of e5), ?_⟩
  refine ⟨pu, g, fs.length, by rw [List.length_map]; rfl, hP5, hf1, by lia, fun fi H6 hfi hP6 sx6 => ?_⟩
  have hfew := hfs (fs.getD fi 0) (by
    have := List.getElem_mem hfi
    rwa [show fs.getD fi 0 = fs[fi] by simp [List.getD, hfi]])
  have e6 := sx6 _ _ nfl.1 nfl.2 e5
  have sx6' := sx5.trans sx6
  refine ⟨fl, _, _, Vn (fs.getD fi 0), rfl, rfl, SqL.of e6, atI_nat (map_get hfi), ?_⟩
  generalize fs.getD fi 0 = few at hfew ⊢
  have hfewm : few ≤ m := Nat.le_of_dvd (by lia) (Nat.dvd_of_mod_eq_zero hfew.2)
  have T6 := T5.x ap sx6
  dsimp only [gName]
  refine ⟨_, rfl, tb, _, rfl, T6.get tab_p, _, rfl, p, few, rfl, p_le hp hm hQ, by lia, ?_⟩
  have hqq : p ^ few ≤ 64 := Nat.le_trans (Nat.pow_le_pow_right (by lia) hfewm) hQ
  -- rounds
  dsimp only [gName]
  refine ⟨_, rfl, tb, _, rfl, T6.get tab_many, ?_⟩
  refine ⟨1, ((p ^ m : Nat) : Int), rfl, by lia, ?_⟩
  refine comp_any seqs_range (fun k acc H' => Same H6 H' ∧ ∃ ts : List Addr, acc = ts.map V.ref ∧ ts.length = k ∧ (∀ a ∈ ts, PairAt2 p m t H' a) ∧ (0 < k → ∃ a ∈ ts, pn H' a = 1)) ⟨Same.refl _, ([] : List Addr), rfl, rfl, fun a ha => absurd ha (by simp), fun h => absurd h (Nat.lt_irrefl _)⟩ (fun _ _ _ _ _ => trivial) ?_ ?_ ?_
  · rintro k acc H' hk ⟨_, ts, rfl, hl, _⟩
    rw [List.length_map, hl]; exact small1000 (by lia)
  · rintro k acc x H' H'' hk ⟨s', ts, rfl, hl, hts, h1⟩ ⟨rfl, rfl⟩
    have hk2 : 1 + k < p ^ m := by lia
    refine ⟨_, rfl, _, rfl, tb, fa, pa, la, p, m, t, b, 1 + k, ?_, T6.same s', by lia, hk2, fun n o hn => ?_⟩
    · rw [show (1 + (k : Int)) = ((1 + k : Nat) : Int) by lia]; rfl
    refine ⟨_, rfl, szl 2, fun a ha => ?_⟩
    have sn := same_new ha (.tup [Vn n, .int (1 + (k : Int))])
    have en : upd H'' a (.tup [Vn n, .int (1 + (k : Int))]) a = some (.tup [Vn n, Vn (1 + k)]) := by rw [upd_same]; congr 1
    refine ⟨s'.trans sn, ts ++ [a], by rw [List.map_append]; rfl, by simp [hl], ?_, ?_⟩
    · intro a' ha'
      rcases List.mem_append.mp ha' with h | h
      · exact (hts a' h).same sn
      · cases List.mem_singleton.mp h
        exact ⟨n, 1 + k, en, o, hn, by lia, hk2⟩
    · intro _
      by_cases c0 : k = 0
      · subst c0
        refine ⟨a, by simp, ?_⟩
        rw [pn_of en]
        have h2 := o.pos
        have h3 := o.le (k := 1) (by lia) (by rw [pw_one hp hm (by lia)])
        lia
      · obtain ⟨a', ha', e'⟩ := h1 (by lia)
        obtain ⟨n', x', hx', _⟩ := hts a' ha'
        exact ⟨a', List.mem_append_left _ ha', by rw [pn_of (sn _ _ hx'), ← pn_of hx']; exact e'⟩
  rintro acc H7 ⟨s7, ts, rfl, htl, hts, hone⟩ rl hrl
  have htl2 : ts.length = p ^ m - 1 := by
    rw [htl, show ((p ^ m : Nat) : Int) - 1 = ((p ^ m - 1 : Nat) : Int) by lia]; rfl
  obtain ⟨a1, ha1, ea1⟩ := hone (by lia)
  have s7' := s7.trans (same_new hrl (.lst (ts.map V.ref)))
  have T7 := T6.same s7'
  have hP7 := hP6.same s7'
  have nrl := (hP6.same s7).lt hrl
  have e7 : upd H7 rl (.lst (ts.map V.ref)) rl = some (.lst (ts.map V.ref)) := upd_same
  have hts7 : ∀ a ∈ ts, PairAt2 p m t (upd H7 rl (.lst (ts.map V.ref))) a := fun a ha => (hts a ha).same (same_new hrl _)
  have ea7 : pn (upd H7 rl (.lst (ts.map V.ref))) a1 = 1 := by
    obtain ⟨n', x', hx', _⟩ := hts a1 ha1
    rw [pn_of (same_new hrl _ _ _ hx'), ← pn_of hx']; exact ea1
  have sx7 := sx6'.trans (Same.x s7')
  dsimp only [gName]
  generalize upd H7 rl (.lst (ts.map V.ref)) = H8 at s7' T7 hP7 e7 hts7 ea7 sx7 ⊢
  -- those of a round at most so
  refine ⟨_, rfl, rl, rfl, ⟨_, SqL.of e7⟩, ?_⟩
  refine comp_any (seqs_list (xs := ts.map V.ref)) (fun k acc H' => H' = H8 ∧ acc = ((ts.take k).filter fun a => decide (pn H8 a ≤ most)).map V.ref) ⟨rfl, rfl⟩ (fun i acc H' _ h => h.1 ▸ SqL.of e7) ?_ ?_ ?_
  · rintro k acc H' hk ⟨_, rfl⟩
    have := List.length_filter_le (fun a => decide (pn H8 a ≤ most)) (ts.take k)
    rw [List.length_take] at this
    rw [List.length_map]; exact small1000 (by lia)
  · rintro k acc z H' H'' hk ⟨rfl, rfl⟩ ⟨rfl, ez⟩
    obtain ⟨a, ea, rfl⟩ := ref_get ez
    obtain ⟨n, x, hx, _⟩ := hts7 a (List.mem_of_getElem? ea)
    refine ⟨_, rfl, a, _, _, Vn n, rfl, rfl, SqT.of hx, rfl, _, rfl, _, _, rfl, rfl, _, rfl, ?_⟩
    rw [take_more ea, List.filter_append]
    refine ite2 (fun c => ?_) (fun c => ?_)
    · have c1 : n ≤ most := by have := of_decide_eq_true c; lia
      refine ⟨_, rfl, rfl, ?_⟩
      rw [List.map_append]
      simp [pn_of hx, c1]
    · have c1 : ¬ n ≤ most := fun h => c (decide_eq_true (by lia))
      refine ⟨rfl, ?_⟩
      simp [pn_of hx, c1]
  rw [List.length_map]
  rintro acc H9 ⟨rfl, rfl⟩ r2 hr2
  rw [List.take_length]
  obtain ⟨us, hus⟩ : ∃ us, us = ts.filter fun a => decide (pn H9 a ≤ most) := ⟨_, rfl⟩
  rw [← hus]
  have hu1 : ∀ a ∈ us, PairAt2 p m t H9 a ∧ pn H9 a ≤ most := fun a ha => by
    rw [hus] at ha
    have := List.mem_filter.mp ha
    exact ⟨hts7 a this.1, of_decide_eq_true this.2⟩
  have hu0 : a1 ∈ us := by rw [hus]; exact List.mem_filter.mpr ⟨ha1, decide_eq_true (by rw [ea7]; exact hmost)⟩
  have hul : us.length ≤ 63 := by
    have := List.length_filter_le (fun a => decide (pn H9 a ≤ most)) ts
    rw [← hus] at this
    lia
  clear hus
  have pk : ∀ {H H' : Hp}, Same H H' → ∀ a, PairAt2 p m t H a → pn H' a = pn H a := fun s a ⟨n, x, h, _⟩ => by rw [pn_of (s _ _ h), pn_of h]
  have s9 := same_new hr2 (.lst (us.map V.ref))
  have T9 := T7.same s9
  have hP9 := hP7.same s9
  have n2 := hP7.lt hr2
  have e9 : upd H9 r2 (.lst (us.map V.ref)) r2 = some (.lst (us.map V.ref)) := upd_same
  have hu9 : ∀ a ∈ us, PairAt2 p m t (upd H9 r2 (.lst (us.map V.ref))) a ∧ pn (upd H9 r2 (.lst (us.map V.ref))) a ≤ most := fun a ha => ⟨(hu1 a ha).1.same s9, by rw [pk s9 a (hu1 a ha).1]; exact (hu1 a ha).2⟩
  have sx9 := sx7.trans (Same.x s9)
  dsimp only [gName]
  generalize upd H9 r2 (.lst (us.map V.ref)) = HA at s9 T9 hP9 e9 hu9 sx9 ⊢
  -- the greatest
  refine ⟨_, rfl, r2, rfl, ⟨_, SqL.of e9⟩, ?_⟩
  refine comp_any (seqs_list (xs := us.map V.ref)) (fun k acc H' => H' = HA ∧ acc = ((us.take k).map (pn HA)).map Vn) ⟨rfl, rfl⟩ (fun i acc H' _ h => h.1 ▸ SqL.of e9) ?_ ?_ ?_
  · rintro k acc H' hk ⟨_, rfl⟩
    rw [List.length_map, List.length_map, List.length_take]; exact small1000 (by lia)
  · rintro k acc z H' H'' hk ⟨rfl, rfl⟩ ⟨rfl, ez⟩
    obtain ⟨a, ea, rfl⟩ := ref_get ez
    obtain ⟨⟨n, x, hx, _⟩, _⟩ := hu9 a (List.mem_of_getElem? ea)
    refine ⟨_, rfl, a, _, _, Vn n, rfl, rfl, SqT.of hx, rfl, rfl, ?_⟩
    rw [take_more ea, List.map_append, List.map_append, show [a].map (pn H'') = [n] by rw [List.map_singleton, pn_of hx]]; rfl
  rw [List.length_map]
  rintro acc HB ⟨rfl, rfl⟩ gl' hgl'
  rw [List.take_length]
  refine ⟨gl', (us.map (pn HB)).map (fun n : Nat => (n : Int)), rfl, SqL.of (by rw [mapI]; exact upd_same), by rw [List.length_map, List.length_map]; exact List.length_pos_of_mem hu0, fun M hM1 hM2 => ?_⟩
  obtain ⟨M, hM, rfl⟩ := List.mem_map.mp hM1
  obtain ⟨aM, haM, eM⟩ := List.mem_map.mp hM
  have sB := same_new hgl' (.lst ((us.map (pn HB)).map Vn))
  have TB := T9.same sB
  have hPB := hP9.same sB
  have eB := sB _ _ e9
  have huB : ∀ a ∈ us, PairAt2 p m t (upd HB gl' (.lst ((us.map (pn HB)).map Vn))) a ∧ pn (upd HB gl' (.lst ((us.map (pn HB)).map Vn))) a ≤ most := fun a ha => ⟨(hu9 a ha).1.same sB, by rw [pk sB a (hu9 a ha).1]; exact (hu9 a ha).2⟩
  have eMB : pn (upd HB gl' (.lst ((us.map (pn HB)).map Vn))) aM = M := by rw [pk sB aM (hu9 aM haM).1]; exact eM
  have sxB := sx9.trans (Same.x sB)
  dsimp only [gName]
  generalize upd HB gl' (.lst ((us.map (pn HB)).map Vn)) = HC at sB TB hPB eB huB eMB sxB ⊢
  change tSeq (tIfS _ _ _) _ _ _ _
  let I2 : St → Hp → Prop := fun σ H' => Ex2 fun (rr : Addr) (ws : List Addr) => An7 (Same HC H') (H' rr = some (.lst (ws.map V.ref))) (rr ≠ pu ∧ rr ≠ g) (0 < ws.length) (ws.length ≤ 63) (∀ a ∈ ws, PairAt2 p m t H' a ∧ pn H' a ≤ most) (σ = [some (.ref pu), some (Vn most), some (Vn way), some (Vn far), some (.ref tb), some (.ref fl), some (Vn few), some (Vn (p ^ few)), some (.ref rr), some (Vn M), none, none, none, none, none, none])
  refine seq_cut I2 ?_ ?_
  · rintro σ HE ⟨rr, ws, sE, eE, nrr, hw0, hw1, hws, rfl⟩
    have TE := TB.same sE
    have hPE := hPB.same sE
    have sxE := sxB.trans (Same.x sE)
    refine ⟨_, rfl, _, rfl, _, rfl, rr, _, rfl, .inl (SqL.of eE), ?_⟩
    refine ⟨pu, g, ws.length, by rw [List.length_map]; rfl, hPE, hw0, by lia, fun wi HF hwi hPF sxF => ?_⟩
    have hwm : ws[wi] ∈ ws := List.getElem_mem hwi
    obtain ⟨⟨n, root, hpr, ord, hnq, r0, rq⟩, hmo⟩ := hws _ hwm
    rw [pn_of hpr] at hmo
    have npr := hPE.tup_ne hpr
    have hprF := sxF _ _ npr.1 npr.2 hpr
    have eF := sxF _ _ nrr.1 nrr.2 eE
    have TF := TE.x ap sxF
    have sxF' := sxE.trans sxF
    have hn0 := ord.pos
    refine ⟨rr, _, _, .ref ws[wi], rfl, rfl, SqL.of eF, atI_nat (by rw [List.getElem?_map, List.getElem?_eq_getElem hwi]; rfl), ?_⟩
    refine ⟨ws[wi], _, rfl, SqT.of hprF, rfl, _, _, rfl, _, _, rfl, rfl, ?_⟩
    refine ⟨szl 0, fun m0 hm0 => ?_⟩
    have sG := same_new hm0 (.lst [])
    have hPG := hPF.same sG
    have nm0 := hPF.lt hm0
    have eG : upd HF m0 (.lst []) m0 = some (.lst (([] : List Nat).map Vn)) := upd_same
    have TG := TF.same sG
    have sxG := sxF'.trans (Same.x sG)
    dsimp only [gName]
    generalize upd HF m0 (.lst []) = HG at sG hPG eG TG sxG ⊢
    have hrnd := Ord.round G r0 rq ord hfew.2 hfew.1
    have hme : 1 ≤ m / few := Nat.div_pos hfewm hfew.1
    have hme2 : m / few ≤ 6 := Nat.le_trans (Nat.div_le_self _ _) hm6
    change tSeq (tIfS _ _ _) _ _ _ _
    let I3 : St → Hp → Prop := fun σ H' => An3 (Pu H' pu g) (SameX pu g HG H') (Ex5 fun (ml : Addr) (ns : List Nat) (s13 s14 s15 : Option V) => An6 (H' ml = some (.lst (ns.map Vn))) (ml ≠ pu ∧ ml ≠ g) (ns.length ≤ 400) (∀ x ∈ ns, x < n) (∀ x ∈ ns, x * p ^ few % n ∈ ns) (σ = [some (.ref pu), some (Vn most), some (Vn way), some (Vn far), some (.ref tb), some (.ref fl), some (Vn few), some (Vn (p ^ few)), some (.ref rr), some (Vn M), some (Vn n), some (Vn root), some (.ref ml), s13, s14, s15]))
    refine seq_cut I3 ?_ ?_
    · rintro σ HI ⟨hPI, sxI, ml, ns, s13, s14, s15, eI, nml, hnl, hnn, hnc, rfl⟩
      have TI := TG.x ap sxI
      refine ⟨_, rfl, _, rfl, tb, _, rfl, TI.get tab_field, _, rfl, _, rfl, _, rfl, ml, ns.map (fun n : Nat => (n : Int)), rfl, SqL.of (by rw [mapI]; exact eI), by rw [List.length_map]; lia, ?_, ?_⟩
      · intro ks hks hsub
        have := nodup_len (τ := (List.range n).map fun i : Nat => (i : Int)) hks fun k hk => by
          obtain ⟨x, hx, rfl⟩ := List.mem_map.mp (hsub k hk)
          exact List.mem_map.mpr ⟨x, List.mem_range.mpr (hnn x hx), rfl⟩
        rw [List.length_map, List.length_range] at this
        lia
      · intro l2 ns' hl2 hasc hmem
        obtain ⟨marks, hmk⟩ : ∃ marks : List Nat, ns' = marks.map fun x : Nat => (x : Int) := by
          refine ⟨ns'.map Int.toNat, ?_⟩
          rw [List.map_map]
          conv => lhs; rw [← List.map_id ns']
          refine List.map_congr_left fun k hk => ?_
          obtain ⟨x, _, rfl⟩ := List.mem_map.mp ((hmem k).mp hk)
          rfl
        subst hmk
        have hmm : ∀ x : Nat, x ∈ marks ↔ x ∈ ns := fun x => by
          have := hmem (x : Int)
          constructor
          · intro h
            obtain ⟨y, hy, e⟩ := List.mem_map.mp (this.mp (List.mem_map_of_mem h))
            rw [← Int.ofNat.inj e]; exact hy
          · intro h
            obtain ⟨y, hy, e⟩ := List.mem_map.mp (this.mpr (List.mem_map_of_mem h))
            rw [← Int.ofNat.inj e]; exact hy
        have hasc2 : marks.Pairwise (· < ·) := by
          rw [List.pairwise_map] at hasc
          exact hasc.imp fun h => by lia
        rw [mapI]
        have s2 := same_new hl2 (.lst (marks.map Vn))
        refine ⟨l2, _, rfl, .inl ⟨SqL.of upd_same, fun mk hmk => ?_⟩⟩
        have s3 := same_new hmk (.tup (marks.map Vn))
        refine ⟨szl 4, fun wh hwh => ?_⟩
        have s4' := same_new hwh (.tup [.ref fa, Vn few, Vn root, .ref mk])
        refine ⟨szl 2, fun r hr => ?_⟩
        have s5' := same_new hr (.tup [.ref tb, .ref wh])
        have hP2' := hPI.same s2
        have hP3' := hP2'.same s3
        have hP4' := hP3'.same s4'
        refine q r tb fa pa la wh mk p m t b few root n marks _ upd_same ((((TI.same s2).same s3).same s4').same s5') ap ⟨s5' _ _ upd_same, s5' _ _ (s4' _ _ upd_same)⟩ (hP3'.lt hwh) (hP2'.lt hmk) (hP4'.lt hr) ⟨hfew.1, hfew.2, r0, rq, ord, hnq, hasc2, fun x hx => hnn x ((hmm x).mp hx), fun x hx => (hmm _).mpr (hnc x ((hmm x).mp hx))⟩ hmo (hP4'.same s5') ?_
        exact (sxG.trans sxI).trans (Same.x (((s2.trans s3).trans s4').trans s5'))
    · intro D' _ _ _ hD'
      refine ⟨_, rfl, rfl, _, rfl, ?_⟩
      refine ite2 (fun c => ?_) (fun c => ?_)
      · refine ⟨_, rfl, (n : Int), rfl, fun rg hrg => ⟨rg, 0, (n : Int), rfl, upd_same, by lia, by rw [show ((n : Int) - 0).toNat = n by lia]; exact szl _ (by lia), fun l hl => ?_⟩⟩
        have s1' := same_new hrg (.rng 0 (n : Int))
        have e1 : L2.intsFrom 0 ((n : Int) - 0).toNat = (List.range n).map Vn := by
          rw [show ((n : Int) - 0).toNat = n by lia]
          unfold L2.intsFrom
          refine List.map_congr_left fun i _ => ?_
          rw [Int.zero_add]
        rw [e1]
        have s2' := same_new hl (.lst ((List.range n).map Vn))
        exact hD' _ _ ⟨(hPG.same s1').same s2', Same.x (s1'.trans s2'), l, List.range n, _, _, _, upd_same, (hPG.same s1').lt hl, by rw [List.length_range]; lia, fun x hx => List.mem_range.mp hx, fun x _ => List.mem_range.mpr (Nat.mod_lt _ (by lia)), rfl⟩
      · refine ⟨_, rfl, rfl, _, rfl, ?_⟩
        refine ite2 (fun c => ?_) (fun c => ?_)
        · refine ⟨_, rfl, _, rfl, pu, g, n, rfl, hPG, by lia, by lia, fun i HJ hi hPJ sxJ => ?_⟩
          refine ⟨_, rfl, _, rfl, i, n, p ^ few, m / few, rfl, by lia, by lia, hqq, hme, hme2, hrnd, fun r ns HK sK nr er h1 h2 h3 h4 _ _ _ => ?_⟩
          exact hD' _ _ ⟨hPJ.same sK, sxJ.trans (Same.x sK), r, ns, _, _, _, er, hPJ.lt nr, by lia, h3, h4, rfl⟩
        · refine ⟨_, rfl, _, _, rfl, rfl, _, rfl, ?_⟩
          refine ite2 (fun c => ?_) (fun c => ?_)
          · refine ⟨_, rfl, _, rfl, pu, g, n, rfl, hPG, by lia, by lia, fun first HJ hfi hPJ sxJ => ?_⟩
            refine ⟨_, rfl, _, rfl, pu, g, n, rfl, hPJ, by lia, by lia, fun many HK hma hPK sxK => ?_⟩
            refine ⟨_, _, rfl, ?_⟩
            refine ⟨_, rfl, many, rfl, by lia, by lia, ?_⟩
            have eK := sxK _ _ nm0.1 nm0.2 (sxJ _ _ nm0.1 nm0.2 eG)
            let I4 : Nat → St → Hp → Prop := fun k σ H' => An3 (Pu H' pu g) (SameX pu g HG H') (Ex3 fun (ml : Addr) (ns : List Nat) (s15 : Option V) => An6 (H' ml = some (.lst (ns.map Vn))) (ml ≠ pu ∧ ml ≠ g) (ns.length ≤ 6 * k) (∀ x ∈ ns, x < n) (∀ x ∈ ns, x * p ^ few % n ∈ ns) (σ = [some (.ref pu), some (Vn most), some (Vn way), some (Vn far), some (.ref tb), some (.ref fl), some (Vn few), some (Vn (p ^ few)), some (.ref rr), some (Vn M), some (Vn n), some (Vn root), some (.ref ml), some (Vn first), some (Vn many), s15]))
            refine for_range (n := many) I4
              ⟨hPK, sxJ.trans sxK, m0, [], _, eK, nm0, by decide, fun x hx => absurd hx (by simp), fun x hx => absurd hx (by simp), rfl⟩ ?_ ?_
            · rintro k σ HL hk ⟨hPL, sxL, ml, ns, s15, eL, nml, hnl, hnn, hnc, rfl⟩
              have body : ∀ HM, Pu HM pu g → SameX pu g HL HM → ∀ Q : V → Hp → Prop, (∀ l (ns' : List Nat) H', Pu H' pu g → SameX pu g HG H' → H' l = some (.lst (ns'.map Vn)) → (l ≠ pu ∧ l ≠ g) → ns'.length ≤ 6 * (k + 1) → (∀ x ∈ ns', x < n) → (∀ x ∈ ns', x * p ^ few % n ∈ ns') → Q (.ref l) H') →
                  tOp rCat (tVar 12) (tCall sp_lring [] E0 (tCons (tOp (rI0 fun i j => V.int (i + j)) (tVar 13) (tVar 15)) (tCons (tVar 10) (tCons (tVar 7) tNil)))) [some (.ref pu), some (Vn most), some (Vn way), some (Vn far), some (.ref tb), some (.ref fl), some (Vn few), some (Vn (p ^ few)), some (.ref rr), some (Vn M), some (Vn n), some (Vn root), some (.ref ml), some (Vn first), some (Vn many), some (.int (0 + (k : Int)))] HM Q := by
                intro HM hPM sxM Q hQ
                have eM := sxM _ _ nml.1 nml.2 eL
                refine ⟨_, rfl, _, rfl, _, rfl, _, _, rfl, rfl, _, rfl, _, rfl, first + k, n, p ^ few, m / few, ?_, by lia, by lia, hqq, hme, hme2, hrnd, fun r rs HN sN nr er h1 h2 h3 h4 _ _ _ => ?_⟩
                · show [V.int ((first : Int) + (0 + (k : Int))), Vn n, Vn (p ^ few)] = [Vn (first + k), Vn n, Vn (p ^ few)]
                  rw [show (first : Int) + (0 + (k : Int)) = ((first + k : Nat) : Int) by lia]
                refine ⟨ml, r, _, _, rfl, rfl, sN _ _ eM, er, by rw [List.length_map, List.length_map]; exact szl _ (by lia), fun l hl => ?_⟩
                rw [← List.map_append]
                have sO := same_new hl (.lst ((ns ++ rs).map Vn))
                refine hQ l (ns ++ rs) _ ((hPM.same sN).same sO) ((sxL.trans sxM).trans (Same.x (sN.trans sO))) upd_same ((hPM.same sN).lt hl) (by rw [List.length_append]; lia) (fun x hx => ?_) (fun x hx => ?_)
                · rcases List.mem_append.mp hx with h | h
                  · exact hnn x h
                  · exact h3 x h
                · rcases List.mem_append.mp hx with h | h
                  · exact List.mem_append_left _ (hnc x h)
                  · exact List.mem_append_right _ (h4 x h)
              refine ⟨_, rfl, _, _, rfl, rfl, _, rfl, ?_⟩
              refine ite2 (fun c => ?_) (fun c => ?_)
              · refine ite2 (fun _ => ?_) (fun h => absurd rfl h)
                exact body HL hPL SameX.refl _ fun l ns' H' a1 a2 a3 a4 a5 a6 a7 => ⟨a1, a2, l, ns', _, a3, a4, a5, a6, a7, rfl⟩
              · refine ⟨_, rfl, pu, g, 3, rfl, hPL, by lia, by lia, fun v HM hv hPM sxM => ?_⟩
                refine ⟨rfl, _, rfl, ?_⟩
                refine ite2 (fun _ => ?_) (fun _ => ?_)
                · exact body HM hPM sxM _ fun l ns' H' a1 a2 a3 a4 a5 a6 a7 => ⟨a1, a2, l, ns', _, a3, a4, a5, a6, a7, rfl⟩
                · exact ⟨hPM, sxL.trans sxM, ml, ns, _, sxM _ _ nml.1 nml.2 eL, nml, by lia, hnn, hnc, rfl⟩
            · rintro σ HL ⟨hPL, sxL, ml, ns, s15, eL, nml, hnl, hnn, hnc, rfl⟩
              exact hD' _ _ ⟨hPL, sxL, ml, ns, _, _, _, eL, nml, by lia, hnn, hnc, rfl⟩
          · exact hD' _ _ ⟨hPG, SameX.refl, m0, [], _, _, _, eG, nm0, by decide, fun x hx => absurd hx (by simp), fun x hx => absurd hx (by simp), rfl⟩
  · intro D' _ _ _ hD'
    refine ⟨_, rfl, _, _, rfl, rfl, _, rfl, ?_⟩
    refine ite2 (fun c => ?_) (fun c => ?_)
    · refine ⟨_, rfl, r2, rfl, ⟨_, SqL.of eB⟩, ?_⟩
      refine comp_any (seqs_list (xs := us.map V.ref)) (fun k acc H' => H' = HC ∧ acc = ((us.take k).filter fun a => decide (pn HC a = M)).map V.ref) ⟨rfl, rfl⟩ (fun i acc H' _ h => h.1 ▸ SqL.of eB) ?_ ?_ ?_
      · rintro k acc H' hk ⟨_, rfl⟩
        have := List.length_filter_le (fun a => decide (pn HC a = M)) (us.take k)
        rw [List.length_take] at this
        rw [List.length_map]; exact small1000 (by lia)
      · rintro k acc z H' H'' hk ⟨rfl, rfl⟩ ⟨rfl, ez⟩
        obtain ⟨a, ea, rfl⟩ := ref_get ez
        obtain ⟨⟨n, x, hx, _⟩, _⟩ := huB a (List.mem_of_getElem? ea)
        refine ⟨_, rfl, a, _, _, Vn n, rfl, rfl, SqT.of hx, rfl, _, rfl, rfl, _, rfl, ?_⟩
        have ed : decide (Vn n = Vn M) = decide (n = M) := decide_eq_decide.mpr ⟨fun e => Int.ofNat.inj (V.int.inj e), fun e => by rw [e]⟩
        rw [take_more ea, List.filter_append, ed]
        refine ite2 (fun c => ?_) (fun c => ?_)
        · have c1 : n = M := of_decide_eq_true c
          refine ⟨_, rfl, rfl, ?_⟩
          rw [List.map_append]
          simp [pn_of hx, c1]
        · have c1 : ¬ n = M := fun h => c (decide_eq_true h)
          refine ⟨rfl, ?_⟩
          simp [pn_of hx, c1]
      rw [List.length_map]
      rintro acc HD ⟨rfl, rfl⟩ r3 hr3
      rw [List.take_length]
      have s3 := same_new hr3 (.lst ((us.filter fun a => decide (pn HD a = M)).map V.ref))
      refine hD' _ _ ⟨r3, us.filter fun a => decide (pn HD a = M), s3, upd_same, hPB.lt hr3, ?_, ?_, ?_, rfl⟩
      · exact List.length_pos_of_mem (List.mem_filter.mpr ⟨haM, decide_eq_true eMB⟩)
      · exact Nat.le_trans (List.length_filter_le _ _) hul
      · intro a ha
        have h1 := huB a (List.mem_filter.mp ha).1
        exact ⟨h1.1.same s3, by rw [pk s3 a h1.1]; exact h1.2⟩
    · exact hD' _ _ ⟨r2, us, Same.refl _, eB, n2, List.length_pos_of_mem hu0, hul, huB, rfl⟩
end
end My

end
section
set_option Elab.async false
set_option linter.all false
set_option maxRecDepth 100000
set_option maxHeartbeats 4000000
namespace L2
open PySem PyProof.Rows
end L2
namespace My
open PySem L2 Dg
local macro_rules | `(tactic| walk_at "rd") => `(tactic| repeat (first | refine ⟨_, rfl, ?_⟩ | refine ⟨_, _, rfl, rfl, ?_⟩))
/-! runs of marks, by numbers -/
section
variable {P : Program} {w : World} {mg : Str → Option Value} {base : Heap} {f : Addr} {fd : FuncData}
/-! the greatest that parts both -/
/-! steps -/
/-! runs -/
theorem inV_marks (x : Nat) (marks : List Nat) : inV (Vn x) (marks.map Vn) = decide (x ∈ marks) := by
  unfold inV
  rw [List.any_map]
  rw [Bool.eq_iff_iff, List.any_eq_true, decide_eq_true_eq]
  constructor
  · rintro ⟨y, hy, h⟩
    have : ((y : Int) == (x : Int)) = true := h
    rw [← Int.ofNat.inj (eq_of_beq this)]; exact hy
  · intro h
    exact ⟨x, h, beq_self_eq_true ((x : Nat) : Int)⟩
theorem flat_marks (marks : List Nat) : (marks.map Vn).all flatV = true := by
  rw [List.all_eq_true]
  intro v hv
  obtain ⟨x, _, rfl⟩ := List.mem_map.mp hv
  rfl
end
end My

end
section
set_option Elab.async false
set_option linter.all false
set_option maxRecDepth 100000
set_option maxHeartbeats 4000000
namespace My
open PySem L2 Dg
theorem menu_prime : (menu.all fun c => (List.range c.1).all fun k => decide (k < 2) || decide (c.1 % k ≠ 0)) = true := by decide +kernel
theorem Good.prime {p m t low : Nat} (G : Good p m t) (h2 : 2 ≤ low) (h : low < p) : p % low ≠ 0 := by
  have h1 := List.all_eq_true.mp menu_prime _ G.mem
  have h3 := List.all_eq_true.mp h1 low (List.mem_range.mpr h)
  rw [Bool.or_eq_true] at h3
  rcases h3 with h3 | h3
  · have := of_decide_eq_true h3; omega
  · exact of_decide_eq_true h3
section
variable {P : Program} {w : World} {mg : Str → Option Value} {base : Heap} {f : Addr} {fd : FuncData}
inductive sp_isw1 (vs : List V) (H : Hp) (Q : VK) (E : XK) : Prop
  | mk (i : Int) (c1 : vs = [.int i]) (c2 : Q (.bl true) H) : sp_isw1 vs H Q E
theorem sc_is_whole : FnScope ["thing"] ["thing"] (defScope s_is_whole) := ⟨rfl, rfl, rfl, by decide +kernel, rfl, by decide +kernel, by decide +kernel⟩
theorem ok_isw1 (B : Bl mg) (F : Fun K "is_whole" "is_whole" s_is_whole f fd) : FnOk P w K mg base CX0 1 f fd ["thing"] sp_isw1 := by
  refine F.ok sc_is_whole (fun vs H Q E h => ?_) (fun cdv A outer s H vs Q E hr h => ?_)
  · obtain ⟨i, rfl, _⟩ := h; rfl
  obtain ⟨i, rfl, q⟩ := h
  refine ⟨_, (~~~((@pe_and _ _ _ _ _ _ _ (isi_int>>>("isinstance",PyProof.Rows.boot_isinstance,((pv 0)>=>("int"⊂boot_ty_int)>=>pa_nil))) (@pe_one _ _ _ _ _ (@pe_not _ _ _ _ (isi_bool>>>("isinstance",PyProof.Rows.boot_isinstance,((pv 0)>=>("bool"⊂boot_ty_bool)>=>pa_nil))))))⁻¹)), ?_⟩
  try dsimp only [cxOf]
  refine ⟨_, rfl, _, "int", rfl, rfl, true, rfl, ?_⟩
  refine ite2 (fun _ => ?_) (fun c => absurd rfl c)
  refine ⟨_, rfl, _, "int", rfl, rfl, ?_⟩
  exact ⟨_, rfl, q⟩
inductive sp_isws (K : PySem.W.Frag) (vs : List V) (H : Hp) (Q : VK) (E : XK) : Prop
  | mk (a : Addr) (ns : List Nat) (c1 : vs = [.ref a, Vn ns.length]) (c2 : SqT K H a (ns.map Vn)) (c3 : ns.length ≤ 10) (c4 : ∀ H', Same H H' → Q (.bl true) H') : sp_isws K vs H Q E
theorem sc_is_wholes : FnScope ["thing", "many"] ["thing", "many"] (defScope s_is_wholes) := ⟨rfl, rfl, rfl, by decide +kernel, rfl, by decide +kernel, by decide +kernel⟩
theorem ok_isws (B : Bl mg) (h_is_whole : Has P w K mg base 1 "is_whole" ["thing"] sp_isw1) (F : Fun K "is_wholes" "is_wholes" s_is_wholes f fd) : FnOk P w K mg base CX0 2 f fd ["thing", "many"] (sp_isws K) := by
  refine F.ok sc_is_wholes (fun vs H Q E h => ?_) (fun cdv A outer s H vs Q E hr h => ?_)
  · obtain ⟨a, ns, rfl, _⟩ := h; rfl
  obtain ⟨a, ns, rfl, ha, hl, q⟩ := h
  refine ⟨_, (((@PW.pt _ _ _ (@pw_or _ _ _ _ _ _ _ (@pt_not _ _ _ _ (@pt_val _ _ _ (isi_tuple>>>("isinstance",PyProof.Rows.boot_isinstance,((pv 0)>=>("tuple"⊂boot_ty_tuple)>=>pa_nil))) (by intro _; rfl))) (@pw_or1 _ _ _ _ (op_ne∪(call_len_seq>>>("len",PySem.boot_len,((pv 0)>=>pa_nil)))∪(pv 1)))))*>((~~~(pe_bl⁻¹)),pss_nil))<=<(~~~(((call_all rfl)>>>("all",PyProof.Rows.boot_all,((["part"]⊆([],[],["thing", "many"],s_is_wholes,(@pi_tup _ _ _ _ (pv 0)),(0⊇["part"]),pifs_nil,(h_is_whole<$>((pv 0)>=>pa_nil))))>=>pa_nil)))⁻¹))), ?_⟩
  try dsimp only [cxOf]
  refine ⟨_, rfl, _, "tuple", rfl, .inr ⟨rfl, _, ha⟩, true, rfl, ?_⟩
  refine ite2 (fun c => absurd c (by decide)) (fun _ => ?_)
  refine ⟨_, rfl, a, _, rfl, .inr ha, _, rfl, rfl, false, ?_, ?_⟩
  · show V.bl (!decide (V.int (((ns.map Vn).length : Nat) : Int) = Vn ns.length)) = V.bl false
    rw [List.length_map, decide_eq_true rfl]; rfl
  refine ite2 (fun c => absurd c (by decide)) (fun _ => ?_)
  dsimp only [tNext]
  refine ⟨_, rfl, a, rfl, ⟨_, ha⟩, ?_⟩
  refine comp_any (seqs_tup (xs := ns.map Vn)) (fun k acc H' => H' = H ∧ acc = (List.replicate k true).map V.bl) ⟨rfl, rfl⟩ (fun k acc H' _ h => by rw [h.1]; exact ha) ?_ ?_ ?_
  · rintro k acc H' hk ⟨_, rfl⟩
    rw [List.length_map] at hk
    rw [List.length_map, List.length_replicate]; exact small1000 (by omega)
  · rintro k acc z Ha Hb hk ⟨rfl, rfl⟩ ⟨rfl, ez⟩
    rw [List.length_map] at hk
    rw [map_get hk] at ez
    cases ez
    refine ⟨_, rfl, _, rfl, rfl, ?_⟩
    rw [List.replicate_succ', List.map_append]; rfl
  · rintro acc Ha ⟨rfl, rfl⟩ D hD
    refine ⟨D, _, rfl, SqL.of upd_same, ?_⟩
    show Q (V.bl (List.all _ id)) _
    rw [show (List.replicate (ns.map Vn).length true).all id = true by simp]
    exact q _ (same_new hD _)
inductive sp_isprime (vs : List V) (H : Hp) (Q : VK) (E : XK) : Prop
  | mk (p : Nat) (c1 : vs = [Vn p]) (c2 : 2 ≤ p) (c3 : p ≤ 64) (c4 : (∀ low, 2 ≤ low → low < p → p % low ≠ 0)) (c5 : Q (.bl true) H) : sp_isprime vs H Q E
theorem sc_is_prime : FnScope ["number", "low"] ["number"] (defScope s_is_prime) := ⟨rfl, rfl, rfl, by decide +kernel, rfl, by decide +kernel, by decide +kernel⟩
theorem ok_isprime (B : Bl mg) (F : Fun K "is_prime" "is_prime" s_is_prime f fd) : FnOk P w K mg base CX0 1 f fd ["number"] sp_isprime := by
  refine F.ok sc_is_prime (fun vs H Q E h => ?_) (fun cdv A outer s H vs Q E hr h => ?_)
  · obtain ⟨p, rfl, _⟩ := h; rfl
  obtain ⟨p, rfl, h2, h64, hpr, q⟩ := h
  refine ⟨_, (((@pi_range2 _ _ _ _ _ _ _ rfl (B "range" (by decide)) (pe_int>=>(pv 0)>=>pa_nil) (by rfl) (by rfl))<&>((1&&&sc_is_prime.nd),(~~~((op_eq∪(op_mod|||(pv 0)|||(pv 1))∪pe_int)*>((~~~(pe_bl⁻¹)),pss_nil)))))<=<(~~~(pe_bl⁻¹))), ?_⟩
  try dsimp only [cxOf]
  refine ⟨_, rfl, 2, (p : Int), rfl, by omega, ?_⟩
  refine for_range (lo := 2) (fun i σ' H' => H' = H ∧ ∃ v1, σ' = [some (Vn p), v1]) ⟨rfl, _, rfl⟩ ?_ ?_
  · rintro i σ' H' hi ⟨rfl, v1, rfl⟩
    have hl : 2 + i < p := by omega
    rw [show V.int (2 + (i : Int)) = Vn (2 + i) from ints_eq (by omega)]
    dsimp only [gName]
    refine ⟨_, rfl, _, rfl, _, _, rfl, rfl, by show (0 : Int) < ((2 + i : Nat) : Int); omega, rfl, false, ?_, ?_⟩
    · show V.bl (decide (V.int ((p : Int) % ((2 + i : Nat) : Int)) = V.int 0)) = V.bl false
      rw [decide_eq_false (fun e => hpr _ (by omega) hl (by have := V.int.inj e; rw [← Int.natCast_emod] at this; omega))]
    refine ite2 (fun c => absurd c (by decide)) (fun _ => ?_)
    exact ⟨rfl, _, rfl⟩
  · rintro σ' H' ⟨rfl, v1, rfl⟩
    exact q
inductive sp_allone (K : PySem.W.Frag) (vs : List V) (H : Hp) (Q : VK) (E : XK) : Prop
  | mk (a : Addr) (p m t : Nat) (c1 : vs = [.ref a]) (c2 : Fld K H a p m t) (c3 : Good p m t) (c4 : Q (.bl true) H) : sp_allone K vs H Q E
theorem sc_all_come_to_one : FnScope ["field", "others", "one"] ["field"] (defScope s_all_come_to_one) := ⟨rfl, rfl, rfl, by decide +kernel, rfl, by decide +kernel, by decide +kernel⟩
theorem ok_allone (B : Bl mg) (h_many_things : Has P w K mg base 2 "many_things" ["field"] (sp_many K)) (h_times_itself : Has P w K mg base 4 "times_itself" ["field", "one", "many"] (sp_itself K)) (F : Fun K "all_come_to_one" "all_come_to_one" s_all_come_to_one f fd) : FnOk P w K mg base CX0 5 f fd ["field"] (sp_allone K) := by
  refine F.ok sc_all_come_to_one (fun vs H Q E h => ?_) (fun cdv A outer s H vs Q E hr h => ?_)
  · obtain ⟨a, p, m, t, rfl, _⟩ := h; rfl
  obtain ⟨a, p, m, t, rfl, hF, G, q⟩ := h
  have hp := G.hp
  have hm := G.hm
  have hQ := one_lt hp hm
  have hq := G.hq
  refine ⟨_, ((1<|>sc_all_come_to_one.nd<|>(op_sub|||(h_many_things<$>((pv 0)>=>pa_nil))|||pe_int))<=<((@pi_range2 _ _ _ _ _ _ _ rfl (B "range" (by decide)) (pe_int>=>(op_add|||(pv 1)|||pe_int)>=>pa_nil) (by rfl) (by rfl))<&>((2&&&sc_all_come_to_one.nd),(~~~((op_ne∪(h_times_itself<$>((pv 0)>=>(pv 2)>=>(pv 1)>=>pa_nil))∪pe_int)*>((~~~(pe_bl⁻¹)),pss_nil)))))<=<(~~~(pe_bl⁻¹))), ?_⟩
  try dsimp only [cxOf]
  refine ⟨_, rfl, a, p, m, t, rfl, hF, p_le hp hm G.hq, by have := m_le hp G.hq; omega, _, _, rfl, rfl, ?_⟩
  dsimp only [gName]
  rw [show ((p ^ m : Nat) : Int) - 1 = ((p ^ m - 1 : Nat) : Int) by omega]
  refine ⟨_, rfl, _, _, rfl, rfl, ?_⟩
  refine ⟨1, ((p ^ m : Nat) : Int), by show [V.int 1, V.int (((p ^ m - 1 : Nat) : Int) + 1)] = _; rw [show ((p ^ m - 1 : Nat) : Int) + 1 = ((p ^ m : Nat) : Int) by omega], by omega, ?_⟩
  refine for_range (lo := 1) (fun i σ' H' => H' = H ∧ ∃ v2, σ' = [some (.ref a), some (Vn (p ^ m - 1)), v2]) ⟨rfl, _, rfl⟩ ?_ ?_
  · rintro i σ' H' hi ⟨rfl, v1, rfl⟩
    have hl : 1 + i < p ^ m := by omega
    rw [show V.int (1 + (i : Int)) = Vn (1 + i) from ints_eq (by omega)]
    dsimp only [gName]
    refine ⟨_, rfl, _, rfl, _, rfl, a, p, m, t, 1 + i, p ^ m - 1, rfl, hF, G, hl, ?_⟩
    rw [G.fermat (by omega) hl]
    refine ⟨rfl, false, rfl, ?_⟩
    refine ite2 (fun c => absurd c (by decide)) (fun _ => ?_)
    exact ⟨rfl, _, rfl⟩
  · rintro σ' H' ⟨rfl, v1, rfl⟩
    exact q
end
end My

end
section
set_option Elab.async false
set_option linter.all false
set_option maxRecDepth 100000
set_option maxHeartbeats 4000000
namespace My
open PySem L2 Dg
section
variable {P : Program} {w : World} {mg : Str → Option Value} {base : Heap} {f : Addr} {fd : FuncData}
inductive sp_isfield (K : PySem.W.Frag) (vs : List V) (H : Hp) (Q : VK) (E : XK) : Prop
  | mk (a : Addr) (p m t : Nat) (c1 : vs = [.ref a]) (c2 : Fld K H a p m t) (c3 : Good p m t) (c4 : ∀ H', Same H H' → Q (.bl true) H') : sp_isfield K vs H Q E
theorem sc_is_field : FnScope ["thing", "p", "m", "top", "many"] ["thing"] (defScope s_is_field) := ⟨rfl, rfl, rfl, by decide +kernel, rfl, by decide +kernel, by decide +kernel⟩
theorem ok_isfield {tk : Tok} (m_MOST_THINGS : mg "MOST_THINGS" = some (.int 64 tk)) (B : Bl mg) (h_is_wholes : Has P w K mg base 2 "is_wholes" ["thing", "many"] (sp_isws K)) (h_is_prime : Has P w K mg base 1 "is_prime" ["number"] sp_isprime) (h_many_things : Has P w K mg base 2 "many_things" ["field"] (sp_many K)) (h_all_come_to_one : Has P w K mg base 5 "all_come_to_one" ["field"] (sp_allone K)) (F : Fun K "is_field" "is_field" s_is_field f fd) : FnOk P w K mg base CX0 6 f fd ["thing"] (sp_isfield K) := by
  refine F.ok sc_is_field (fun vs H Q E h => ?_) (fun cdv A outer s H vs Q E hr h => ?_)
  · obtain ⟨a, p, m, t, rfl, _⟩ := h; rfl
  obtain ⟨a, p, m, t, rfl, hF, G, q⟩ := h
  have hp := G.hp
  have hm := G.hm
  have hq := G.hq
  have hp2 := p_le hp hm hq
  have hm6 := m_le hp hq
  have htp := G.top
  refine ⟨_, (((@pt_not _ _ _ _ (@pt_val _ _ _ (h_is_wholes<$>((pv 0)>=>pe_int>=>pa_nil)) (by intro _; rfl)))*>((~~~(pe_bl⁻¹)),pss_nil))<=<((pv 0)≈((1&&&sc_is_field.nd)∩((2&&&sc_is_field.nd)∩((3&&&sc_is_field.nd)∩pgs_nil))))<=<((@pt_not _ _ _ _ (@PW.pt _ _ _ (@pw_and _ _ _ _ _ _ _ (@pt_chain _ _ _ _ _ _ _ _ _ _ _ _ op_le op_le pe_int (pv 1) (@pe_glob _ _ _ _ _ rfl m_MOST_THINGS (RelV_int _ _) (by decide)) (by with_unfolding_all rfl)) (@pw_and _ _ _ _ _ _ _ (@pt_chain _ _ _ _ _ _ _ _ _ _ _ _ op_le op_le pe_int (pv 2) (@pe_glob _ _ _ _ _ rfl m_MOST_THINGS (RelV_int _ _) (by decide)) (by with_unfolding_all rfl)) (@pw_and1 _ _ _ _ (@pt_val _ _ _ (h_is_prime<$>((pv 1)>=>pa_nil)) (by intro _; rfl)))))))*>((~~~(pe_bl⁻¹)),pss_nil))<=<(4<|>sc_is_field.nd<|>(h_many_things<$>((pv 0)>=>pa_nil)))<=<((@PW.pt _ _ _ (@pw_or _ _ _ _ _ _ _ (op_gt∪(pv 4)∪(@pe_glob _ _ _ _ _ rfl m_MOST_THINGS (RelV_int _ _) (by decide))) (@pw_or1 _ _ _ _ (@pt_not _ _ _ _ (@pt_chain _ _ _ _ _ _ _ _ _ _ _ _ op_le op_lt pe_int (pv 3) (pv 4) (by with_unfolding_all rfl))))))*>((~~~(pe_bl⁻¹)),pss_nil))<=<(~~~((h_all_come_to_one<$>((pv 0)>=>pa_nil))⁻¹))), ?_⟩
  try dsimp only [cxOf]
  refine ⟨_, rfl, a, [p, m, t], rfl, hF, (show 3 ≤ 10 by omega), fun H1 s1 => ?_⟩
  refine ⟨true, rfl, ?_⟩
  refine ite2 (fun c => absurd c (by decide)) (fun _ => ?_)
  dsimp only [tNext]
  have hF1 := Same.tup s1 hF
  refine ⟨_, rfl, a, _, rfl, hF1, rfl, _, _, rfl, _, _, rfl, _, _, rfl, rfl, ?_⟩
  refine ⟨_, rfl, _, _, rfl, rfl, true, by show V.bl (decide ((2 : Int) ≤ (p : Int))) = V.bl true; rw [decide_eq_true (by omega)], ?_⟩
  refine ite2 (fun _ => ?_) (fun c => absurd rfl c)
  refine ⟨_, _, rfl, rfl, true, by show V.bl (decide ((p : Int) ≤ 64)) = V.bl true; rw [decide_eq_true (by omega)], ?_⟩
  refine ite2 (fun _ => ?_) (fun c => absurd rfl c)
  refine ⟨_, rfl, _, _, rfl, rfl, true, by show V.bl (decide ((1 : Int) ≤ (m : Int))) = V.bl true; rw [decide_eq_true (by omega)], ?_⟩
  refine ite2 (fun _ => ?_) (fun c => absurd rfl c)
  refine ⟨_, _, rfl, rfl, true, by show V.bl (decide ((m : Int) ≤ 64)) = V.bl true; rw [decide_eq_true (by omega)], ?_⟩
  refine ite2 (fun _ => ?_) (fun c => absurd rfl c)
  refine ⟨_, rfl, p, rfl, hp, hp2, fun low h2 h => My.Good.prime G h2 h, true, rfl, ?_⟩
  refine ite2 (fun c => absurd c (by decide)) (fun _ => ?_)
  dsimp only [tNext]
  refine ⟨_, rfl, a, p, m, t, rfl, hF1, hp2, by omega, ?_⟩
  dsimp only [gName]
  refine ⟨_, rfl, _, _, rfl, rfl, false, by show V.bl (decide (((p ^ m : Nat) : Int) > 64)) = V.bl false; rw [decide_eq_false (by omega)], ?_⟩
  refine ite2 (fun c => absurd c (by decide)) (fun _ => ?_)
  refine ⟨_, rfl, _, _, rfl, rfl, true, by show V.bl (decide ((0 : Int) ≤ (t : Int))) = V.bl true; rw [decide_eq_true (by omega)], ?_⟩
  refine ite2 (fun _ => ?_) (fun c => absurd rfl c)
  refine ⟨_, rfl, _, _, rfl, rfl, true, by show V.bl (decide ((t : Int) < ((p ^ m : Nat) : Int))) = V.bl true; rw [decide_eq_true (by omega)], ?_⟩
  refine ite2 (fun c => absurd c (by decide)) (fun _ => ?_)
  dsimp only [tNext]
  exact ⟨_, rfl, a, p, m, t, rfl, hF1, G, q _ s1⟩
inductive sp_isrising (K : PySem.W.Frag) (vs : List V) (H : Hp) (Q : VK) (E : XK) : Prop
  | mk (a : Addr) (ns : List Nat) (n : Nat) (c1 : vs = [.ref a, Vn n]) (c2 : SqT K H a (ns.map Vn)) (c3 : ns.Pairwise (· < ·)) (c4 : (∀ x ∈ ns, x < n)) (c5 : Q (.bl true) H) : sp_isrising K vs H Q E
theorem sc_is_rising : FnScope ["thing", "n", "before", "mark"] ["thing", "n"] (defScope s_is_rising) := ⟨rfl, rfl, rfl, by decide +kernel, rfl, by decide +kernel, by decide +kernel⟩
theorem ok_isrising (B : Bl mg) (h_is_whole : Has P w K mg base 1 "is_whole" ["thing"] sp_isw1) (F : Fun K "is_rising" "is_rising" s_is_rising f fd) : FnOk P w K mg base CX0 2 f fd ["thing", "n"] (sp_isrising K) := by
  refine F.ok sc_is_rising (fun vs H Q E h => ?_) (fun cdv A outer s H vs Q E hr h => ?_)
  · obtain ⟨a, ns, n, rfl, _⟩ := h; rfl
  obtain ⟨a, ns, n, rfl, ha, hasc, hlt, q⟩ := h
  refine ⟨_, (((@pt_not _ _ _ _ (@pt_val _ _ _ (isi_tuple>>>("isinstance",PyProof.Rows.boot_isinstance,((pv 0)>=>("tuple"⊂boot_ty_tuple)>=>pa_nil))) (by intro _; rfl)))*>((~~~(pe_bl⁻¹)),pss_nil))<=<(2<|>sc_is_rising.nd<|>(@pe_un _ _ _ _ _ _ un_neg pe_int))<=<((@pi_tup _ _ _ _ (pv 0))<&>((3&&&sc_is_rising.nd),(((@PW.pt _ _ _ (@pw_or _ _ _ _ _ _ _ (@pt_not _ _ _ _ (@pt_val _ _ _ (h_is_whole<$>((pv 3)>=>pa_nil)) (by intro _; rfl))) (@pw_or1 _ _ _ _ (@pt_not _ _ _ _ (@pt_chain _ _ _ _ _ _ _ _ _ _ _ _ op_lt op_lt (pv 2) (pv 3) (pv 1) (by with_unfolding_all rfl))))))*>((~~~(pe_bl⁻¹)),pss_nil))<=<(~~~(2<|>sc_is_rising.nd<|>(pv 3))))))<=<(~~~(pe_bl⁻¹))), ?_⟩
  try dsimp only [cxOf]
  refine ⟨_, rfl, _, "tuple", rfl, .inr ⟨rfl, _, ha⟩, true, rfl, ?_⟩
  refine ite2 (fun c => absurd c (by decide)) (fun _ => ?_)
  dsimp only [tNext]
  refine ⟨_, rfl, ?_⟩
  dsimp only [gName]
  refine ⟨_, rfl, a, rfl, ⟨_, ha⟩, ?_⟩
  refine for_any (seqs_tup (xs := ns.map Vn)) (fun i σ' H' => H' = H ∧ ∃ (b : Int) (v3 : Option V), (∀ x ∈ ns.drop i, b < (x : Int)) ∧ σ' = [some (.ref a), some (Vn n), some (.int b), v3]) ⟨rfl, -1, _, fun x _ => by omega, rfl⟩ (fun i σ' H' _ h => by rw [h.1]; exact ha) ?_ ?_
  · rintro i z σ' Ha Hb hi ⟨rfl, b, v3, hb, rfl⟩ ⟨rfl, ez⟩
    rw [List.length_map] at hi
    rw [map_get hi] at ez
    cases ez
    have hx : ns.getD i 0 = ns[i] := by simp [List.getD, hi]
    have hd : ns.drop i = ns[i] :: ns.drop (i + 1) := List.drop_eq_getElem_cons hi
    have h1 : b < (ns[i] : Int) := hb _ (by rw [hd]; exact List.mem_cons_self)
    have h2 : ns[i] < n := hlt _ (List.getElem_mem hi)
    have h3 : ∀ x ∈ ns.drop (i + 1), ns[i] < x := fun x hx => by
      have := hasc.drop (i := i)
      rw [hd] at this
      exact (List.pairwise_cons.mp this).1 x hx
    rw [hx]
    generalize ns[i] = y at h1 h2 h3
    dsimp only [gName]
    refine ⟨_, rfl, _, rfl, true, rfl, ?_⟩
    refine ite2 (fun c => absurd c (by decide)) (fun _ => ?_)
    refine ⟨_, rfl, _, rfl, _, _, rfl, rfl, true, by show V.bl (decide (b < (y : Int))) = V.bl true; rw [decide_eq_true h1], ?_⟩
    refine ite2 (fun _ => ?_) (fun c => absurd rfl c)
    refine ⟨_, rfl, _, _, rfl, rfl, true, by show V.bl (decide ((y : Int) < (n : Int))) = V.bl true; rw [decide_eq_true (by omega)], ?_⟩
    refine ite2 (fun c => absurd c (by decide)) (fun _ => ?_)
    dsimp only [tNext]
    exact ⟨_, rfl, rfl, (y : Int), _, fun x hx => by have := h3 x hx; omega, rfl⟩
  · rintro σ' Ha ⟨rfl, b, v3, _, rfl⟩
    exact q
end
end My

end
section
set_option Elab.async false
set_option linter.all false
set_option maxRecDepth 100000
set_option maxHeartbeats 4000000
namespace My
open PySem L2 Dg
theorem nodup_lenM : ∀ (n : Nat) (l : List Nat), l.Nodup → (∀ x ∈ l, x < n) → l.length ≤ n
  | 0, [], _, _ => Nat.le_refl _
  | 0, x :: _, _, h => absurd (h x List.mem_cons_self) (by lia)
  | n + 1, l, hd, h => by
    have h1 := nodup_lenM n (l.erase n) (hd.erase n) fun x hx => by
      have := (hd.mem_erase_iff).mp hx
      have := h x this.2
      lia
    have := List.length_erase_of_mem (a := n) (l := l)
    by_cases c : n ∈ l
    · rw [this c] at h1; lia
    · rw [List.erase_of_not_mem c] at h1; lia
section
variable {P : Program} {w : World} {mg : Str → Option Value} {base : Heap} {f : Addr} {fd : FuncData}
inductive sp_iswheel (K : PySem.W.Frag) (vs : List V) (H : Hp) (Q : VK) (E : XK) : Prop
  | mk (wa fa mk : Addr) (p m t few root n : Nat) (marks : List Nat) (c1 : vs = [.ref wa]) (c2 : WhAt H wa fa mk few root marks) (c3 : Fld K H fa p m t) (c4 : Good p m t) (c5 : Whl p m t few root n marks) (c6 : n ≤ 63) (c7 : ∀ H', Same H H' → Q (.bl true) H') : sp_iswheel K vs H Q E
theorem sc_is_wheel : FnScope ["thing", "field", "few", "root", "marks", "n", "q"] ["thing"] (defScope s_is_wheel) := ⟨rfl, rfl, rfl, by decide +kernel, rfl, by decide +kernel, by decide +kernel⟩
theorem ok_iswheel (B : Bl mg) (h_is_field : Has P w K mg base 6 "is_field" ["thing"] (sp_isfield K)) (h_is_whole : Has P w K mg base 1 "is_whole" ["thing"] sp_isw1) (h_many_things : Has P w K mg base 2 "many_things" ["field"] (sp_many K)) (h_length : Has P w K mg base 5 "length" ["wheel"] (sp_length K)) (h_number_power : Has P w K mg base 1 "number_power" ["base", "many"] sp_number_power) (h_is_rising : Has P w K mg base 2 "is_rising" ["thing", "n"] (sp_isrising K)) (F : Fun K "is_wheel" "is_wheel" s_is_wheel f fd) : FnOk P w K mg base CX0 7 f fd ["thing"] (sp_iswheel K) := by
  refine F.ok sc_is_wheel (fun vs H Q E h => ?_) (fun cdv A outer s H vs Q E hr h => ?_)
  · obtain ⟨wa, fa, mk, p, m, t, few, root, n, marks, rfl, _⟩ := h; rfl
  obtain ⟨wa, fa, mk, p, m, t, few, root, n, marks, rfl, hW, hF, G, W, hn, q⟩ := h
  have hp := G.hp
  have hm := G.hm
  have hq := G.hq
  have hp2 := p_le hp hm hq
  have hm6 := m_le hp hq
  have hn0 := W.ord.pos
  have hf1 := W.few1
  have hr0 := W.r0
  have hrq := W.rq
  have hfm : few ≤ m := Nat.le_of_dvd (by omega) (Nat.dvd_of_mod_eq_zero W.fewm)
  refine ⟨_, (((@PW.pt _ _ _ (@pw_or _ _ _ _ _ _ _ (@pt_not _ _ _ _ (@pt_val _ _ _ (isi_tuple>>>("isinstance",PyProof.Rows.boot_isinstance,((pv 0)>=>("tuple"⊂boot_ty_tuple)>=>pa_nil))) (by intro _; rfl))) (@pw_or1 _ _ _ _ (op_ne∪(call_len_seq>>>("len",PySem.boot_len,((pv 0)>=>pa_nil)))∪pe_int))))*>((~~~(pe_bl⁻¹)),pss_nil))<=<((pv 0)≈((1&&&sc_is_wheel.nd)∩((2&&&sc_is_wheel.nd)∩((3&&&sc_is_wheel.nd)∩((4&&&sc_is_wheel.nd)∩pgs_nil)))))<=<((@PW.pt _ _ _ (@pw_or _ _ _ _ _ _ _ (@pt_not _ _ _ _ (@pt_val _ _ _ (h_is_field<$>((pv 1)>=>pa_nil)) (by intro _; rfl))) (@pw_or _ _ _ _ _ _ _ (@pt_not _ _ _ _ (@pt_val _ _ _ (h_is_whole<$>((pv 2)>=>pa_nil)) (by intro _; rfl))) (@pw_or1 _ _ _ _ (@pt_not _ _ _ _ (@pt_val _ _ _ (h_is_whole<$>((pv 3)>=>pa_nil)) (by intro _; rfl)))))))*>((~~~(pe_bl⁻¹)),pss_nil))<=<((@PW.pt _ _ _ (@pw_or _ _ _ _ _ _ _ (op_lt∪(pv 2)∪pe_int) (@pw_or _ _ _ _ _ _ _ (op_ne∪(op_mod|||(ix_tup<<<(pv 1)<<<pe_int)|||(pv 2))∪pe_int) (@pw_or1 _ _ _ _ (@pt_not _ _ _ _ (@pt_chain _ _ _ _ _ _ _ _ _ _ _ _ op_lt op_lt pe_int (pv 3) (h_many_things<$>((pv 1)>=>pa_nil)) (by with_unfolding_all rfl)))))))*>((~~~(pe_bl⁻¹)),pss_nil))<=<(5<|>sc_is_wheel.nd<|>(h_length<$>((pv 0)>=>pa_nil)))<=<(6<|>sc_is_wheel.nd<|>(h_number_power<$>((ix_tup<<<(pv 1)<<<pe_int)>=>(pv 2)>=>pa_nil)))<=<(~~~((@pe_and _ _ _ _ _ _ _ (h_is_rising<$>((pv 4)>=>(pv 5)>=>pa_nil)) (@pe_one _ _ _ _ _ ((call_all rfl)>>>("all",PyProof.Rows.boot_all,((["mark"]⊆(["marks", "n", "q"],[4, 5, 6],["thing", "field", "few", "root", "marks", "n", "q"],s_is_wheel,(@pi_tup _ _ _ _ (pv 4)),(0⊇["mark", "marks", "n", "q"]),pifs_nil,(@pe_cmpR _ _ _ _ _ _ _ _ (op_in_seqK (K := K) rfl) (op_mod|||(op_mul|||(pv 0)|||(pv 3))|||(pv 2)) (pv 1) (by with_unfolding_all rfl))))>=>pa_nil)))))⁻¹))), ?_⟩
  try dsimp only [cxOf]
  refine ⟨_, rfl, _, "tuple", rfl, .inr ⟨rfl, _, SqT.of hW.w⟩, true, rfl, ?_⟩
  refine ite2 (fun c => absurd c (by decide)) (fun _ => ?_)
  refine ⟨_, rfl, wa, _, rfl, .inr (SqT.of hW.w), rfl, false, rfl, ?_⟩
  refine ite2 (fun c => absurd c (by decide)) (fun _ => ?_)
  dsimp only [tNext]
  refine ⟨_, rfl, wa, _, rfl, SqT.of hW.w, rfl, _, _, rfl, _, _, rfl, _, _, rfl, _, _, rfl, rfl, ?_⟩
  refine ⟨_, rfl, fa, p, m, t, rfl, hF, G, fun H1 s1 => ?_⟩
  refine ⟨true, rfl, ?_⟩
  refine ite2 (fun c => absurd c (by decide)) (fun _ => ?_)
  refine ⟨_, rfl, _, rfl, true, rfl, ?_⟩
  refine ite2 (fun c => absurd c (by decide)) (fun _ => ?_)
  refine ⟨_, rfl, _, rfl, true, rfl, ?_⟩
  refine ite2 (fun c => absurd c (by decide)) (fun _ => ?_)
  dsimp only [tNext]
  have hW1 := hW.same s1
  have hF1 := Same.tup s1 hF
  refine ⟨_, rfl, _, _, rfl, rfl, false, by show V.bl (decide ((few : Int) < 1)) = V.bl false; rw [decide_eq_false (by omega)], ?_⟩
  refine ite2 (fun c => absurd c (by decide)) (fun _ => ?_)
  refine ⟨_, rfl, fa, _, _, Vn m, rfl, rfl, hF1, rfl, _, rfl, _, _, rfl, rfl, by show (0 : Int) < (few : Int); omega, rfl, false, ?_, ?_⟩
  · show V.bl (!decide (V.int ((m : Int) % (few : Int)) = V.int 0)) = V.bl false
    rw [← Int.natCast_emod, W.fewm]; rfl
  refine ite2 (fun c => absurd c (by decide)) (fun _ => ?_)
  refine ⟨_, rfl, _, _, rfl, rfl, true, by show V.bl (decide ((0 : Int) < (root : Int))) = V.bl true; rw [decide_eq_true (by omega)], ?_⟩
  refine ite2 (fun _ => ?_) (fun c => absurd rfl c)
  refine ⟨_, rfl, fa, p, m, t, rfl, hF1, hp2, by omega, ?_⟩
  refine ⟨_, _, rfl, rfl, true, by show V.bl (decide ((root : Int) < ((p ^ m : Nat) : Int))) = V.bl true; rw [decide_eq_true (by omega)], ?_⟩
  refine ite2 (fun c => absurd c (by decide)) (fun _ => ?_)
  dsimp only [tNext]
  refine ⟨_, rfl, wa, fa, p, m, t, few, root, .ref mk, rfl, SqT.of hW1.w, hF1, G, hr0, hrq, fun n' o' _ => ?_⟩
  cases o'.uniq W.ord
  dsimp only [gName]
  refine ⟨_, rfl, fa, _, _, Vn p, rfl, rfl, hF1, rfl, _, rfl, p, few, rfl, hp2, by omega, ?_⟩
  dsimp only [gName]
  have hqq : p ^ few ≤ 64 := Nat.le_trans (Nat.pow_le_pow_right (by omega) hfm) hq
  refine ⟨_, rfl, _, rfl, mk, marks, n, rfl, SqT.of hW1.k, W.asc, W.lt, true, rfl, ?_⟩
  refine ite2 (fun _ => ?_) (fun c => absurd rfl c)
  refine ⟨_, rfl, mk, rfl, ⟨_, SqT.of hW1.k⟩, ?_⟩
  have hml := nodup_lenM n marks (W.asc.imp fun h => Nat.ne_of_lt h) W.lt
  refine comp_any (seqs_tup (xs := marks.map Vn)) (fun k acc H' => H' = H1 ∧ acc = (List.replicate k true).map V.bl) ⟨rfl, rfl⟩ (fun k acc H' _ h => by rw [h.1]; exact SqT.of hW1.k) ?_ ?_ ?_
  · rintro k acc H' hk ⟨_, rfl⟩
    rw [List.length_map] at hk
    rw [List.length_map, List.length_replicate]; exact small1000 (by omega)
  · rintro k acc z Ha Hb hk ⟨rfl, rfl⟩ ⟨rfl, ez⟩
    rw [List.length_map] at hk
    rw [map_get hk] at ez
    cases ez
    have hmm : marks.getD k 0 ∈ marks := by simp [List.getD, hk]
    generalize marks.getD k 0 = x at hmm ⊢
    have hxn := W.lt x hmm
    refine ⟨_, rfl, _, rfl, _, _, rfl, rfl, .inl ⟨by show -(2 ^ 64 : Int) < (x : Int); omega, by show (x : Int) < 2 ^ 64; omega⟩, _, rfl, _, _, rfl, rfl, by show (0 : Int) < (n : Int); omega, ?_⟩
    refine ⟨_, rfl, mk, _, rfl, .inr (SqT.of hW1.k), rfl, flat_marks marks, rfl, ?_⟩
    have e : inV (V.int ((x : Int) * ((p ^ few : Nat) : Int) % (n : Int))) (marks.map Vn) = true := by
      have h := inV_marks (x * p ^ few % n) marks
      rw [decide_eq_true (W.closed x hmm)] at h
      exact h
    show _ = (List.replicate (k + 1) true).map V.bl
    rw [List.replicate_succ', List.map_append]
    show _ ++ [V.bl (inV (V.int ((x : Int) * ((p ^ few : Nat) : Int) % (n : Int))) (marks.map Vn))] = _
    rw [e]; rfl
  · rintro acc Ha ⟨rfl, rfl⟩ D hD
    refine ⟨D, _, rfl, SqL.of upd_same, ?_⟩
    show Q (V.bl (List.all _ id)) _
    rw [show (List.replicate (marks.map Vn).length true).all id = true by simp]
    exact q _ (s1.trans (same_new hD _))
end
end My

end
section
set_option Elab.async false
set_option linter.all false
set_option maxRecDepth 100000
set_option maxHeartbeats 4000000
namespace My
open PySem L2 Dg
/-! a number's text -/
noncomputable def numT (n : Nat) : Str := Str.ofString (toString (n : Int))
theorem numT_signs (n : Nat) : (numT n).cps.toList = (Nat.toDigits 10 n).map Char.toNat := PySem.W.KIN.signs_num n
theorem numT_digit {n c : Nat} (h : c ∈ (numT n).cps.toList) : 48 ≤ c ∧ c ≤ 57 := by
  rw [numT_signs] at h
  obtain ⟨ch, hch, rfl⟩ := List.mem_map.mp h
  exact PyProof.Rows.digit_range (Nat.isDigit_of_mem_toDigits (by decide) (by decide) hch)
theorem numT_len {n : Nat} (h : n < 10 ^ 10) : (numT n).length ≤ 10 := PySem.W.KT.len_num (by lia) (by lia)
theorem numT_read {n : Nat} (h : n < 10 ^ 10) : PySem.intText? (numT n) = some (n : Int) := PySem.W.KIN.num_reads (by lia) (by lia)
theorem numT_ne (n : Nat) : (numT n).cps.toList ≠ [] := by
  rw [numT_signs]
  intro e
  exact Nat.toDigits_ne_nil (List.map_eq_nil_iff.mp e)
theorem numT_pos (n : Nat) : 1 ≤ (numT n).length := by
  have h := List.length_pos_iff.mpr (numT_ne n)
  rwa [Array.length_toList] at h
theorem head_digit : ∀ n : Nat, 0 < n → (Nat.toDigits 10 n).head? ≠ some '0' := by
  intro n
  induction n using Nat.strongRecOn with
  | _ n ih =>
    intro h0
    by_cases h : n < 10
    · rw [Nat.toDigits_of_lt_base h]
      have : ∀ k : Nat, k < 10 → 0 < k → [Nat.digitChar k].head? ≠ some '0' := by decide
      exact this n h h0
    · have t : Nat.toDigits 10 (n / 10) ++ Nat.toDigits 10 (n % 10) = Nat.toDigits 10 (10 * (n / 10) + n % 10) := Nat.toDigits_append_toDigits (by decide) (by lia) (Nat.mod_lt n (by decide))
      rw [Nat.div_add_mod] at t
      rw [← t, List.head?_append, Option.or_of_isSome (by rw [List.isSome_head?]; simp [Nat.toDigits_ne_nil])]
      exact ih (n / 10) (by lia) (by lia)
theorem char_inj {a b : Char} (h : a.toNat = b.toNat) : a = b := Char.ext (UInt32.toNat_inj.mp h)
theorem numT_head {n : Nat} (h : 0 < n) : ∃ c, (numT n).cps.toList[0]? = some c ∧ c ≠ 48 := by
  have h1 := numT_ne n
  rw [numT_signs] at h1 ⊢
  have h2 := head_digit n h
  cases e : Nat.toDigits 10 n with
  | nil => rw [e] at h1; exact absurd rfl h1
  | cons ch r =>
    rw [e] at h2
    exact ⟨ch.toNat, rfl, fun q => h2 (by rw [List.head?_cons, char_inj (a := ch) (b := '0') q])⟩
theorem numT_at0 (n : Nat) : ∃ c, (numT n).cps.toList[0]? = some c ∧ (n = 0 ∨ c ≠ 48) := by
  rcases Nat.eq_zero_or_pos n with rfl | h
  · exact ⟨48, rfl, .inl rfl⟩
  · obtain ⟨c, h1, h2⟩ := numT_head h
    exact ⟨c, h1, .inr h2⟩
noncomputable def figs : Str := Str.ofString "0123456789"
theorem fig_in {c : Nat} (h : 48 ≤ c ∧ c ≤ 57) : (!(Builtin.Str.occurrences figs ⟨#[c]⟩ 0 figs.length 1).isEmpty) = true := by
  have : ∀ k : Nat, k < 10 → (!(Builtin.Str.occurrences figs ⟨#[48 + k]⟩ 0 figs.length 1).isEmpty) = true := by decide +kernel
  have h1 := this (c - 48) (by lia)
  rwa [show 48 + (c - 48) = c by lia] at h1
/-! texts joined and split -/
noncomputable def dot : Str := ⟨#[46]⟩
noncomputable def stroke : Str := ⟨#[47]⟩
noncomputable def dash : Str := ⟨#[45]⟩
noncomputable def jL (c : Nat) : List (List Nat) → List Nat
  | [] => []
  | [x] => x
  | x :: r => x ++ c :: jL c r
theorem join_toList (c : Nat) : ∀ xs : List Str, (Str.join ⟨#[c]⟩ xs).cps.toList = jL c (xs.map fun x => x.cps.toList)
  | [] => rfl
  | [x] => rfl
  | x :: y :: r => by
    have := join_toList c (y :: r)
    show (x ++ ⟨#[c]⟩ ++ Str.join ⟨#[c]⟩ (y :: r)).cps.toList = x.cps.toList ++ c :: jL c ((y :: r).map fun x => x.cps.toList)
    rw [← this, PySem.W.KT.app_list, PySem.W.KT.app_list]
    simp
theorem cut_uniq {c : Nat} : ∀ {x x' t t' : List Nat}, c ∉ x → c ∉ x' → x ++ c :: t = x' ++ c :: t' → x = x' ∧ t = t'
  | [], [], _, _, _, _, h => ⟨rfl, (List.cons.inj h).2⟩
  | [], a :: x', _, _, _, h2, h => absurd (List.mem_cons.mpr (.inl (List.cons.inj h).1)) h2
  | a :: x, [], _, _, h1, _, h => absurd (List.mem_cons.mpr (.inl (List.cons.inj h).1.symm)) h1
  | a :: x, b :: x', _, _, h1, h2, h => by
    obtain ⟨e1, e2⟩ := List.cons.inj h
    obtain ⟨e3, e4⟩ := cut_uniq (fun q => h1 (List.mem_cons_of_mem _ q)) (fun q => h2 (List.mem_cons_of_mem _ q)) e2
    exact ⟨by rw [e1, e3], e4⟩
theorem jL_uniq {c : Nat} : ∀ {xs ys : List (List Nat)}, xs ≠ [] → ys ≠ [] → (∀ x ∈ xs, c ∉ x) → (∀ y ∈ ys, c ∉ y) → jL c xs = jL c ys → xs = ys
  | [], _, h, _, _, _, _ => absurd rfl h
  | _, [], _, h, _, _, _ => absurd rfl h
  | [x], [y], _, _, _, _, h => by rw [show x = y from h]
  | [x], y :: z :: r, _, _, hx, _, h => by
    have h : x = y ++ c :: jL c (z :: r) := h
    exact absurd (by rw [h]; simp) (hx x (by simp))
  | x :: z :: r, [y], _, _, _, hy, h => by
    have h : x ++ c :: jL c (z :: r) = y := h
    exact absurd (by rw [← h]; simp) (hy y (by simp))
  | x :: z :: r, y :: u :: r', _, _, hx, hy, h => by
    obtain ⟨e1, e2⟩ := cut_uniq (hx x (by simp)) (hy y (by simp)) (show x ++ c :: jL c (z :: r) = y ++ c :: jL c (u :: r') from h)
    rw [e1, jL_uniq (by simp) (by simp) (fun a ha => hx a (List.mem_cons_of_mem _ ha)) (fun a ha => hy a (List.mem_cons_of_mem _ ha)) e2]
theorem toList_inj {x y : Str} (h : x.cps.toList = y.cps.toList) : x = y := Str.ext' (Array.toList_inj.mp h)
theorem split_ne (x y : Str) : Txt.split x y ≠ [] := by
  unfold Txt.split
  split
  · simp
  · split
    · simp
    · obtain ⟨p, r, e⟩ := StrLaws.partsFrom_ne x y.length 0 (Builtin.Str.occurrences x y 0 x.length (x.length + 1))
      rw [StrLaws.partsBetween_eq, e]; simp
theorem split_join {c : Nat} {xs : List Str} (hn : xs ≠ []) (h : ∀ x ∈ xs, c ∉ x.cps.toList) : Txt.split (Str.join ⟨#[c]⟩ xs) ⟨#[c]⟩ = xs := by
  have e := StrLaws.join_split (Str.join ⟨#[c]⟩ xs) ⟨#[c]⟩
  have e2 := congrArg (fun x : Str => x.cps.toList) e
  change (Str.join _ _).cps.toList = (Str.join _ _).cps.toList at e2
  rw [join_toList, join_toList] at e2
  have e3 := jL_uniq (by simpa using split_ne _ _) (by simpa using hn) (fun y hy => by
    obtain ⟨p, hp, rfl⟩ := List.mem_map.mp hy
    exact StrLaws.split_free _ c p hp) (fun y hy => by
    obtain ⟨p, hp, rfl⟩ := List.mem_map.mp hy
    exact h p hp) e2
  exact (List.map_inj_right fun a b q => toList_inj q).mp e3
theorem jL_mem {c k : Nat} : ∀ {xs : List (List Nat)}, k ∈ jL c xs → k = c ∨ ∃ x ∈ xs, k ∈ x
  | [], h => by cases h
  | [x], h => .inr ⟨x, by simp, h⟩
  | x :: y :: r, h => by
    rcases List.mem_append.mp (show k ∈ x ++ c :: jL c (y :: r) from h) with h | h
    · exact .inr ⟨x, by simp, h⟩
    · rcases List.mem_cons.mp h with h | h
      · exact .inl h
      · rcases jL_mem h with h | ⟨z, hz, h⟩
        · exact .inl h
        · exact .inr ⟨z, List.mem_cons_of_mem _ hz, h⟩
/-- a row's text -/
noncomputable def rowT (ns : List Nat) : Str := if ns = [] then dash else Str.join dot (ns.map numT)
theorem rowT_mem {ns : List Nat} {c : Nat} (h : c ∈ (rowT ns).cps.toList) : c = 45 ∨ c = 46 ∨ (48 ≤ c ∧ c ≤ 57) := by
  unfold rowT at h
  split at h
  · exact .inl (by simpa [dash] using h)
  · unfold dot at h
    rw [join_toList] at h
    rcases jL_mem h with h | ⟨x, hx, h⟩
    · exact .inr (.inl h)
    · rw [List.map_map] at hx
      obtain ⟨n, _, rfl⟩ := List.mem_map.mp hx
      exact .inr (.inr (numT_digit h))
theorem rowT_split {ns : List Nat} (h : ns ≠ []) : Txt.split (rowT ns) dot = ns.map numT := by
  unfold rowT
  rw [if_neg h]
  exact split_join (by simpa using h) fun x hx hc => by
    obtain ⟨n, _, rfl⟩ := List.mem_map.mp hx
    have := numT_digit hc
    lia
theorem rowT_dash {ns : List Nat} (h : ns ≠ []) : rowT ns ≠ dash := fun e => by
  have h1 : (45 : Nat) ∈ (rowT ns).cps.toList := by rw [e]; simp [dash]
  unfold rowT at h1
  rw [if_neg h] at h1
  unfold dot at h1
  rw [join_toList] at h1
  rcases jL_mem h1 with h | ⟨x, hx, h⟩
  · exact absurd h (by decide)
  · rw [List.map_map] at hx
    obtain ⟨n, _, rfl⟩ := List.mem_map.mp hx
    have := numT_digit h
    lia
end My

end
section
set_option Elab.async false
set_option linter.all false
set_option maxRecDepth 100000
set_option maxHeartbeats 4000000
namespace My
open PySem L2 Dg
section
variable {P : Program} {w : World} {mg : Str → Option Value} {base : Heap} {f : Addr} {fd : FuncData}
theorem log_small {n : Nat} (h : n ≤ 10 ^ 9) : (n : Int).natAbs.log2 < 1920 := by
  rw [Int.natAbs_natCast]
  rcases Nat.eq_zero_or_pos n with rfl | h0
  · decide
  · exact Nat.lt_of_lt_of_le ((Nat.log2_lt (Nat.ne_of_gt h0)).mpr (Nat.lt_of_le_of_lt h (show 10 ^ 9 < 2 ^ 40 by decide))) (by decide)
inductive sp_shownum (vs : List V) (H : Hp) (Q : VK) (E : XK) : Prop
  | mk (n : Nat) (c1 : vs = [Vn n]) (c2 : n ≤ 10 ^ 9) (c3 : ∀ H', Same H H' → Q (.str (numT n)) H') : sp_shownum vs H Q E
theorem sc_show_number : FnScope ["number", "groups"] ["number"] (defScope s_show_number) := ⟨rfl, rfl, rfl, by decide +kernel, rfl, by decide +kernel, by decide +kernel⟩
theorem ok_shownum {tk : Tok} (m_GROUP : mg "GROUP" = some (.int 10000000000000000000000000000000000000000000000000000000000000000 tk)) (B : Bl mg) (F : Fun K "show_number" "show_number" s_show_number f fd) : FnOk P w K mg base CX0 1 f fd ["number"] sp_shownum := by
  refine F.ok sc_show_number (fun vs H Q E h => ?_) (fun cdv A outer s H vs Q E hr h => ?_)
  · obtain ⟨n, rfl, _⟩ := h; rfl
  obtain ⟨n, rfl, hn, ret⟩ := h
  refine ⟨_, ((1<|>sc_show_number.nd<|>(@pe_lst _ _ _ _ pa_nil))<=<(@ps_while _ _ _ _ _ _ PassesOwn.never (op_ge∪(pv 0)∪(@pe_glob _ _ _ _ _ rfl m_GROUP (RelV_int _ _) (by decide))) (ps_never<=<(~~~ps_never)))<=<(@ps_expr _ _ _ _ (@pe_bm _ _ _ _ _ _ _ _ _ _ _ _ PySem.F.plainAttrs_list PySem.F.slot_list_append PySem.F.type_list_append mt_append (pv 1) (((call_strS hr.gd hr.units)<*("str",boot_ty_str,((pv 0)>=>pa_nil)))>=>pa_nil) (by rfl) (by rfl) (by rfl) (by rfl) (by rfl)) (by rfl))<=<(~~~((pe_joinRev rfl rfl (B "reversed" (by decide)) pe_str (pv 1))⁻¹))), ?_⟩
  try dsimp only [cxOf]
  refine ⟨szl 0, fun l hl => ?_⟩
  have s1 := same_new hl (.lst [])
  have el : upd H l (.lst []) l = some (.lst ([] : List V)) := upd_same
  dsimp only [gName]
  generalize upd H l (.lst []) = H1 at s1 el ⊢
  let I1 : St → Hp → Prop := fun σ H' => H' = H1 ∧ σ = [some (Vn n), some (.ref l)]
  refine while_go I1 (fun _ _ => 0) ⟨rfl, rfl⟩ ?_
  rintro σ H2 ⟨rfl, rfl⟩
  refine ⟨_, rfl, _, _, rfl, rfl, _, rfl, ?_⟩
  refine ite2 (fun c => absurd (of_decide_eq_true c) (by lia)) (fun _ => ?_)
  refine ⟨_, rfl, .inl ⟨rfl, _, SqL.of el⟩, ?_⟩
  refine ⟨_, rfl, _, numT n, rfl, .inl ⟨n, rfl, log_small hn, rfl⟩, ?_⟩
  refine ⟨l, _, _, rfl, rfl, el, by decide, ?_⟩
  have s2 := same_upd s1 hl (o := .lst ([V.str (numT n)]))
  refine ⟨_, rfl, _, rfl, l, [numT n], rfl, SqL.of upd_same, joinOk_of (B := 10) (fun y hy => by rw [List.mem_singleton.mp hy]; exact numT_len (by lia)) (show 1 * (10 + 0) ≤ 2 ^ 20 by decide), ?_⟩
  exact ret _ s2
inductive sp_shownums (K : PySem.W.Frag) (vs : List V) (H : Hp) (Q : VK) (E : XK) : Prop
  | mk (a : Addr) (ns : List Nat) (c1 : vs = [.ref a]) (c2 : SqT K H a (ns.map Vn)) (c3 : ns.length ≤ 200) (c4 : ∀ n ∈ ns, n ≤ 10 ^ 9) (c5 : ∀ H', Same H H' → Q (.str (rowT ns)) H') : sp_shownums K vs H Q E
theorem join_rows {ns : List Nat} (h : ns ≠ []) : Txt.join dot (ns.map numT) = rowT ns := by
  unfold rowT
  rw [if_neg h]
  exact StrLaws.glued_eq_join _ _
theorem joinOk_row {ns : List Nat} (hl : ns.length ≤ 200) (hn : ∀ n ∈ ns, n ≤ 10 ^ 9) : JoinOk dot (ns.map numT) = true := joinOk_of (B := 10) (fun y hy => by
  obtain ⟨n, h, rfl⟩ := List.mem_map.mp hy
  have := hn n h
  exact numT_len (by lia)) (by rw [List.length_map, show dot.length = 1 from rfl]; lia)
theorem sc_show_numbers : FnScope ["row"] ["row"] (defScope s_show_numbers) := ⟨rfl, rfl, rfl, by decide +kernel, rfl, by decide +kernel, by decide +kernel⟩
theorem ok_shownums (B : Bl mg) (h_show_number : Has P w K mg base 1 "show_number" ["number"] sp_shownum) (F : Fun K "show_numbers" "show_numbers" s_show_numbers f fd) : FnOk P w K mg base CX0 2 f fd ["row"] (sp_shownums K) := by
  refine F.ok sc_show_numbers (fun vs H Q E h => ?_) (fun cdv A outer s H vs Q E hr h => ?_)
  · obtain ⟨a, ns, rfl, _⟩ := h; rfl
  obtain ⟨a, ns, rfl, ha, hl, hn, ret⟩ := h
  refine ⟨_, ((((op_eqT hr.units0)∪(pv 0)∪(@pe_tup _ _ _ _ _ pa_nil))*>((~~~(pe_str⁻¹)),pss_nil))<=<(~~~((@pe_bm _ _ _ _ _ _ _ _ _ _ _ _ PySem.F.plainAttrs_str PySem.F.slot_str_join PySem.F.type_str_join mt_join pe_str ((["number"]⊆([],[],["row"],s_show_numbers,(@pi_tup _ _ _ _ (pv 0)),(0⊇["number"]),pifs_nil,(h_show_number<$>((pv 0)>=>pa_nil))))>=>pa_nil) (by rfl) (by rfl) (by rfl) (by rfl) (by rfl))⁻¹))), ?_⟩
  try dsimp only [cxOf]
  refine ⟨_, rfl, szl 0, fun z hz => ?_⟩
  have s1 := same_new hz (.tup [])
  refine ⟨a, z, ns.map (fun n : Nat => (n : Int)), [], rfl, rfl, by rw [mapI]; exact Same.tup s1 ha, SqT.of upd_same, ?_⟩
  have ha1 := Same.tup s1 ha
  generalize upd H z (.tup []) = H1 at s1 ha1 ⊢
  refine ⟨_, rfl, ?_⟩
  refine ite2 (fun c => ?_) (fun c => ?_)
  · have e : ns = [] := by simpa using c
    subst e
    exact ret H1 s1
  have e : ns ≠ [] := fun e => c (by subst e; rfl)
  dsimp only [tNext]
  refine ⟨rfl, ?_⟩
  refine ⟨_, rfl, a, rfl, ⟨_, ha1⟩, ?_⟩
  refine comp_any (seqs_tup (xs := ns.map Vn)) (fun k acc H' => Same H1 H' ∧ acc = ((ns.take k).map numT).map V.str) ⟨Same.refl _, rfl⟩ (fun i acc H' _ h => Same.tup h.1 ha1) ?_ ?_ ?_
  · rintro k acc H' hk ⟨_, rfl⟩
    rw [List.length_map, List.length_map, List.length_take]; exact small1000 (by lia)
  · rintro k acc z H2 H2' hk ⟨s2, rfl⟩ ⟨rfl, ez⟩
    rw [List.length_map] at hk
    rw [List.getElem?_map, List.getElem?_eq_getElem hk] at ez
    cases ez
    refine ⟨_, rfl, ns[k], rfl, hn _ (List.getElem_mem hk), fun H3 s3 => ⟨s2.trans s3, ?_⟩⟩
    rw [List.take_succ_eq_append_getElem hk, List.map_append, List.map_append]; rfl
  rw [List.length_map, List.take_length]
  rintro acc H2 ⟨s2, rfl⟩ D hD
  refine ⟨dot, D, ns.map numT, rfl, rfl, SqL.of upd_same, joinOk_row hl hn, ?_⟩
  rw [join_rows e]
  exact ret _ ((s1.trans s2).trans (same_new hD _))
theorem sc_show_field : FnScope ["field"] ["field"] (defScope s_show_field) := ⟨rfl, rfl, rfl, by decide +kernel, rfl, by decide +kernel, by decide +kernel⟩
theorem ok_showfield (B : Bl mg) (h_show_numbers : Has P w K mg base 2 "show_numbers" ["row"] (sp_shownums K)) (F : Fun K "show_field" "show_field" s_show_field f fd) : FnOk P w K mg base CX0 3 f fd ["field"] (sp_shownums K) := by
  refine F.ok sc_show_field (fun vs H Q E h => ?_) (fun cdv A outer s H vs Q E hr h => ?_)
  · obtain ⟨a, ns, rfl, _⟩ := h; rfl
  obtain ⟨a, ns, rfl, ha, hl, hn, ret⟩ := h
  exact ⟨_, (~~~((h_show_numbers<$>((pv 0)>=>pa_nil))⁻¹)), _, rfl, a, ns, rfl, ha, hl, hn, ret⟩
noncomputable def c_ok (x : Str) : Prop := ∀ c, c ∈ x.cps.toList → c = 45 ∨ c = 46 ∨ (48 ≤ c ∧ c ≤ 57)
/-- a wheel's text -/
noncomputable def whT (p m t few root : Nat) (marks : List Nat) : Str := Str.join stroke [rowT [p, m, t], numT few, numT root, rowT marks]
theorem whT_split (p m t few root : Nat) (marks : List Nat) : Txt.split (whT p m t few root marks) stroke = [rowT [p, m, t], numT few, numT root, rowT marks] :=
  split_join (by simp) fun x hx hc => by
    have h : c_ok x := by
      simp only [List.mem_cons, List.not_mem_nil, or_false] at hx
      rcases hx with rfl | rfl | rfl | rfl
      · exact fun c h => rowT_mem h
      · exact fun c h => .inr (.inr (numT_digit h))
      · exact fun c h => .inr (.inr (numT_digit h))
      · exact fun c h => rowT_mem h
    have := h 47 hc
    lia
inductive sp_showwheel (K : PySem.W.Frag) (vs : List V) (H : Hp) (Q : VK) (E : XK) : Prop
  | mk (wa fa mk : Addr) (p m t few root : Nat) (marks : List Nat) (c1 : vs = [.ref wa]) (c2 : WhAt H wa fa mk few root marks) (c3 : SqT K H fa [Vn p, Vn m, Vn t]) (c4 : p ≤ 10 ^ 9) (c5 : m ≤ 10 ^ 9) (c6 : t ≤ 10 ^ 9) (c7 : few ≤ 10 ^ 9) (c8 : root ≤ 10 ^ 9) (c9 : marks.length ≤ 200) (c10 : ∀ x ∈ marks, x ≤ 10 ^ 9) (c11 : ∀ H', Same H H' → Q (.str (whT p m t few root marks)) H') : sp_showwheel K vs H Q E
theorem rowT_len {ns : List Nat} (hl : ns.length ≤ 200) (hn : ∀ n ∈ ns, n ≤ 10 ^ 9) : (rowT ns).length ≤ 2200 := by
  unfold rowT
  split
  · decide
  · refine Nat.le_trans (StrLaws.join_length_le _ _) ?_
    have h1 : ∀ ns : List Nat, (∀ n ∈ ns, n ≤ 10 ^ 9) → ((ns.map numT).map (·.length)).sum ≤ ns.length * 10 := fun ns => by
      induction ns with
      | nil => intro _; simp
      | cons a r ih =>
        intro h
        have h1 := numT_len (n := a) (by have := h a List.mem_cons_self; lia)
        have h2 := ih fun y hy => h y (List.mem_cons_of_mem _ hy)
        rw [List.map_cons, List.map_cons, List.sum_cons, List.length_cons, Nat.succ_mul]
        lia
    have h2 := h1 ns hn
    rw [List.length_map, show dot.length = 1 from rfl]
    lia
theorem sc_show_wheel : FnScope ["wheel", "field", "few", "root", "marks"] ["wheel"] (defScope s_show_wheel) := ⟨rfl, rfl, rfl, by decide +kernel, rfl, by decide +kernel, by decide +kernel⟩
theorem ok_showwheel (B : Bl mg) (h_show_number : Has P w K mg base 1 "show_number" ["number"] sp_shownum) (h_show_numbers : Has P w K mg base 2 "show_numbers" ["row"] (sp_shownums K)) (h_show_field : Has P w K mg base 3 "show_field" ["field"] (sp_shownums K)) (F : Fun K "show_wheel" "show_wheel" s_show_wheel f fd) : FnOk P w K mg base CX0 4 f fd ["wheel"] (sp_showwheel K) := by
  refine F.ok sc_show_wheel (fun vs H Q E h => ?_) (fun cdv A outer s H vs Q E hr h => ?_)
  · obtain ⟨wa, fa, mk, p, m, t, few, root, marks, rfl, _⟩ := h; rfl
  obtain ⟨wa, fa, mk, p, m, t, few, root, marks, rfl, hW, hF, hp, hm, ht, hfew, hroot, hl, hmk, ret⟩ := h
  refine ⟨_, (((pv 0)≈((1&&&sc_show_wheel.nd)∩((2&&&sc_show_wheel.nd)∩((3&&&sc_show_wheel.nd)∩((4&&&sc_show_wheel.nd)∩pgs_nil)))))<=<(~~~((@pe_bm _ _ _ _ _ _ _ _ _ _ _ _ PySem.F.plainAttrs_str PySem.F.slot_str_join PySem.F.type_str_join mt_join pe_str ((@pe_lst _ _ _ _ ((h_show_field<$>((pv 1)>=>pa_nil))>=>(h_show_number<$>((pv 2)>=>pa_nil))>=>(h_show_number<$>((pv 3)>=>pa_nil))>=>(h_show_numbers<$>((pv 4)>=>pa_nil))>=>pa_nil))>=>pa_nil) (by rfl) (by rfl) (by rfl) (by rfl) (by rfl))⁻¹))), ?_⟩
  try dsimp only [cxOf]
  refine ⟨_, rfl, wa, _, rfl, SqT.of hW.w, rfl, _, _, rfl, _, _, rfl, _, _, rfl, _, _, rfl, rfl, ?_⟩
  refine ⟨rfl, ?_⟩
  refine ⟨_, rfl, fa, [p, m, t], rfl, hF, show 3 ≤ 200 by decide, fun n h => ?_, fun H1 s1 => ?_⟩
  · simp only [List.mem_cons, List.not_mem_nil, or_false] at h
    rcases h with rfl | rfl | rfl <;> assumption
  refine ⟨_, rfl, few, rfl, hfew, fun H2 s2 => ?_⟩
  refine ⟨_, rfl, root, rfl, hroot, fun H3 s3 => ?_⟩
  refine ⟨_, rfl, mk, marks, rfl, SqT.of (((hW.same s1).same s2).same s3).k, hl, hmk, fun H4 s4 => ?_⟩
  refine ⟨szl 4, fun D hD => ?_⟩
  have l3 : ∀ n ∈ [p, m, t], n ≤ 10 ^ 9 := fun n h => by
    simp only [List.mem_cons, List.not_mem_nil, or_false] at h
    rcases h with rfl | rfl | rfl <;> assumption
  refine ⟨stroke, D, [rowT [p, m, t], numT few, numT root, rowT marks], rfl, rfl, SqL.of upd_same, joinOk_of (B := 2200) (fun y hy => ?_) (show 4 * (2200 + 1) ≤ 2 ^ 20 by decide), ?_⟩
  · simp only [List.mem_cons, List.not_mem_nil, or_false] at hy
    rcases hy with rfl | rfl | rfl | rfl
    · exact rowT_len (show 3 ≤ 200 by decide) l3
    · exact Nat.le_trans (numT_len (by lia)) (by decide)
    · exact Nat.le_trans (numT_len (by lia)) (by decide)
    · exact rowT_len hl hmk
  rw [show Txt.join stroke [rowT [p, m, t], numT few, numT root, rowT marks] = whT p m t few root marks from StrLaws.glued_eq_join _ _]
  exact ret _ ((((s1.trans s2).trans s3).trans s4).trans (same_new hD _))
end
end My

end
section
set_option Elab.async false
set_option linter.all false
set_option maxRecDepth 100000
set_option maxHeartbeats 4000000
namespace My
open PySem L2 Dg
section
variable {P : Program} {w : World} {mg : Str → Option Value} {base : Heap} {f : Addr} {fd : FuncData}
/-! reading -/
noncomputable def figIn (c : Nat) : Bool := !(Builtin.Str.occurrences figs ⟨#[c]⟩ 0 figs.length 1).isEmpty
noncomputable def figB (z : Str) : Bool := decide (1 ≤ z.length) && decide (z.length ≤ 10) && z.cps.toList.all figIn && (decide (z = Str.ofString "0") || decide (z.cps.toList[0]? ≠ some 48))
inductive sp_isfig (vs : List V) (H : Hp) (Q : VK) (E : XK) : Prop
  | mk (z : Str) (c1 : vs = [.str z]) (c2 : z.length ≤ sizeLine) (c3 : ∀ H', Same H H' → Q (.bl (figB z)) H') : sp_isfig vs H Q E
theorem sc_is_figures : FnScope ["text"] ["text"] (defScope s_is_figures) := ⟨rfl, rfl, rfl, by decide +kernel, rfl, by decide +kernel, by decide +kernel⟩
theorem ok_isfig {tk tk2 : Tok} (m_MOST_FIGURES : mg "MOST_FIGURES" = some (.int 10 tk)) (m_FIGURES : mg "FIGURES" = some (.str figs tk2)) (B : Bl mg) (F : Fun K "is_figures" "is_figures" s_is_figures f fd) : FnOk P w K mg base CX0 1 f fd ["text"] sp_isfig := by
  refine F.ok sc_is_figures (fun vs H Q E h => ?_) (fun cdv A outer s H vs Q E hr h => ?_)
  · obtain ⟨z, rfl, _⟩ := h; rfl
  obtain ⟨z, rfl, hz, ret⟩ := h
  refine ⟨_, (((@PW.pt _ _ _ (@pw_or _ _ _ _ _ _ _ (@pt_not _ _ _ _ (@pt_chain _ _ _ _ _ _ _ _ _ _ _ _ op_le op_le pe_int (call_lenS>>>("len",PySem.boot_len,((pv 0)>=>pa_nil))) (@pe_glob _ _ _ _ _ rfl m_MOST_FIGURES (RelV_int _ _) (by decide)) (by with_unfolding_all rfl))) (@pw_or1 _ _ _ _ (@pt_not _ _ _ _ (@pt_val _ _ _ ((call_all rfl)>>>("all",PyProof.Rows.boot_all,((["sign"]⊆([],[],["text"],s_is_figures,(pi_str (pv 0)),(0⊇["sign"]),pifs_nil,(@pe_cmpR _ _ _ _ _ _ _ _ op_inS (pv 0) (@pe_glob _ _ _ _ _ rfl m_FIGURES (RelV_strT _ _) (by decide)) (by with_unfolding_all rfl))))>=>pa_nil))) (by intro _; rfl))))))*>((~~~(pe_bl⁻¹)),pss_nil))<=<(~~~((@pe_or _ _ _ _ _ _ _ (@pe_cmpR _ _ _ _ _ _ _ _ op_eq (pv 0) pe_str (nomark _)) (@pe_one _ _ _ _ _ (@pe_cmpR _ _ _ _ _ _ _ _ op_ne (ix_str<<<(pv 0)<<<pe_int) pe_str (nomark _))))⁻¹))), ?_⟩
  try dsimp only [cxOf]
  refine ⟨_, rfl, z, rfl, hz, ?_⟩
  have no : figB z = false → ∀ H', Same H H' → Q (.bl false) H' := fun e H' s' => e ▸ ret H' s'
  refine ⟨_, _, rfl, rfl, _, rfl, ?_⟩
  refine ite2 (fun c1 => ?_) (fun c1 => ?_)
  case refine_2 =>
    refine ⟨_, rfl, ?_⟩
    exact no (by unfold figB; rw [decide_eq_false (p := 1 ≤ z.length) (fun h => c1 (decide_eq_true (by lia)))]; rfl) _ (Same.refl _)
  have h1 : 1 ≤ z.length := by have := of_decide_eq_true c1; lia
  refine ⟨_, _, rfl, rfl, _, rfl, ?_⟩
  refine ite2 (fun c2 => ?_) (fun c2 => ?_)
  · refine ite2 (fun _ => ?_) (fun c => absurd rfl c)
    exact no (by unfold figB; rw [decide_eq_false (p := z.length ≤ 10) (fun h => by rw [decide_eq_true (by lia)] at c2; cases c2), Bool.and_false]; rfl) _ (Same.refl _)
  have h2 : z.length ≤ 10 := by
    have : decide ((z.length : Int) ≤ 10) = true := by simpa using c2
    have := of_decide_eq_true this
    lia
  refine ⟨_, rfl, z, rfl, ?_⟩
  refine comp_any (seqs_str (x := z)) (fun k acc H' => H' = H ∧ acc = ((z.cps.toList.take k).map figIn).map V.bl) ⟨rfl, rfl⟩ (fun _ _ _ _ _ => trivial) ?_ ?_ ?_
  · rintro k acc H' hk ⟨_, rfl⟩
    rw [List.length_map, List.length_map, List.length_take]; exact small1000 (by lia)
  · rintro k acc v H1 H2 hk ⟨rfl, rfl⟩ ⟨rfl, c, ec, rfl⟩
    have hk' : k < z.cps.toList.length := by rw [Array.length_toList]; exact hk
    refine ⟨_, rfl, _, _, rfl, rfl, rfl, ?_⟩
    have e : z.cps.toList.take (k + 1) = z.cps.toList.take k ++ [c] := by
      rw [List.take_succ_eq_append_getElem hk']
      rw [Array.getElem?_eq_getElem hk] at ec
      simp at ec ⊢
      exact ec
    rw [e, List.map_append, List.map_append]; rfl
  rintro acc H1 ⟨rfl, rfl⟩ D hD
  have s1 := same_new hD (.lst (((z.cps.toList.take z.length).map figIn).map V.bl))
  refine ⟨D, _, rfl, SqL.of upd_same, _, rfl, ?_⟩
  have et : z.cps.toList.take z.length = z.cps.toList := List.take_of_length_le (by rw [Array.length_toList]; exact Nat.le_refl _)
  rw [et] at s1 ⊢
  dsimp only
  rw [List.all_map, show (id ∘ figIn) = figIn from rfl]
  generalize upd H1 D (.lst ((z.cps.toList.map figIn).map V.bl)) = H2 at s1 ⊢
  refine ite2 (fun c3 => ?_) (fun c3 => ?_)
  · exact no (by unfold figB; rw [show z.cps.toList.all figIn = false by simpa using c3, Bool.and_false]; rfl) _ s1
  have h3 : z.cps.toList.all figIn = true := by simpa using c3
  dsimp only [tNext]
  refine ⟨_, rfl, rfl, _, rfl, ?_⟩
  obtain ⟨c, r, ec⟩ : ∃ c r, z.cps.toList = c :: r := by
    cases e : z.cps.toList with
    | nil => have := congrArg List.length e; rw [Array.length_toList] at this; exact absurd this (by simpa [Str.length] using Nat.ne_of_gt h1)
    | cons c r => exact ⟨c, r, rfl⟩
  have fb : figB z = (decide (z = Str.ofString "0") || decide (c ≠ 48)) := by
    unfold figB
    rw [decide_eq_true h1, decide_eq_true h2, h3, ec]
    simp
  refine ite2 (fun c4 => ?_) (fun c4 => ?_)
  · have e : z = Str.ofString "0" := by simpa using c4
    exact (show figB z = true by rw [fb, decide_eq_true e]; rfl) ▸ ret H2 s1
  · have e : ¬ z = Str.ofString "0" := by simpa using c4
    refine ⟨_, rfl, z, 0, c, rfl, rfl, hz, by rw [ec]; exact atI_nat (j := 0) rfl, rfl, ?_⟩
    have := ret H2 s1
    rw [fb, decide_eq_false e, Bool.false_or] at this
    have e2 : (!decide (V.str ⟨#[c]⟩ = V.str (Str.ofString "0"))) = decide (c ≠ 48) := by
      rw [show Str.ofString "0" = ⟨#[48]⟩ from rfl]
      simp
    rw [e2]
    exact this
end
end My

end
section
set_option Elab.async false
set_option linter.all false
set_option maxRecDepth 100000
set_option maxHeartbeats 4000000
namespace My
open PySem L2 Dg
section
variable {P : Program} {w : World} {mg : Str → Option Value} {base : Heap} {f : Addr} {fd : FuncData}
theorem figB_num {n : Nat} (h : n ≤ 10 ^ 9) : figB (numT n) = true := by
  unfold figB
  have h1 := numT_pos n
  have h2 := numT_len (n := n) (by lia)
  rw [decide_eq_true h1, decide_eq_true h2]
  have h3 : (numT n).cps.toList.all figIn = true := List.all_eq_true.mpr fun c hc => fig_in (numT_digit hc)
  rw [h3]
  obtain ⟨c, e, h4⟩ := numT_at0 n
  rcases h4 with rfl | h4
  · rfl
  · rw [e, decide_eq_true (p := some c ≠ some 48) (fun q => h4 (Option.some.inj q))]
    simp
inductive sp_readnum (vs : List V) (H : Hp) (Q : VK) (E : XK) : Prop
  | mk (z : Str) (n : Nat) (c1 : vs = [.str z]) (c2 : figB z = true) (c3 : PySem.intText? z = some (n : Int)) (c4 : n ≤ 10 ^ 9) (c5 : ∀ H', Same H H' → Q (Vn n) H') : sp_readnum vs H Q E
theorem figB_len {z : Str} (h : figB z = true) : z.length ≤ 10 := by
  unfold figB at h
  simp only [Bool.and_eq_true, decide_eq_true_eq] at h
  exact h.1.1.2
theorem sc_read_number : FnScope ["text"] ["text"] (defScope s_read_number) := ⟨rfl, rfl, rfl, by decide +kernel, rfl, by decide +kernel, by decide +kernel⟩
theorem ok_readnum {tk : Tok} (m_MOST : mg "MOST" = some (.int 1000000000 tk)) (B : Bl mg) (h_is_figures : Has P w K mg base 1 "is_figures" ["text"] sp_isfig) (F : Fun K "read_number" "read_number" s_read_number f fd) : FnOk P w K mg base CX0 2 f fd ["text"] sp_readnum := by
  refine F.ok sc_read_number (fun vs H Q E h => ?_) (fun cdv A outer s H vs Q E hr h => ?_)
  · obtain ⟨z, n, rfl, _⟩ := h; rfl
  obtain ⟨z, n, rfl, hf, hi, hn, ret⟩ := h
  have hz := figB_len hf
  refine ⟨_, (((@PW.pt _ _ _ (@pw_or _ _ _ _ _ _ _ (@pt_not _ _ _ _ (@pt_val _ _ _ (h_is_figures<$>((pv 0)>=>pa_nil)) (by intro _; rfl))) (@pw_or1 _ _ _ _ (op_gt∪(call_intS<*("int",boot_ty_int,((pv 0)>=>pa_nil)))∪(@pe_glob _ _ _ _ _ rfl m_MOST (RelV_int _ _) (by decide))))))*>((~~~ps_never),pss_nil))<=<(~~~((call_intS<*("int",boot_ty_int,((pv 0)>=>pa_nil)))⁻¹))), ?_⟩
  try dsimp only [cxOf]
  refine ⟨_, rfl, z, rfl, small1000 (by lia) |> Nat.le_of_lt, fun H1 s1 => ⟨_, rfl, ?_⟩⟩
  rw [hf]
  refine ⟨_, rfl, z, n, rfl, hi, by lia, ?_⟩
  refine ⟨_, _, rfl, rfl, _, rfl, ?_⟩
  refine ite2 (fun c => absurd (of_decide_eq_true c) (by lia)) (fun _ => ?_)
  exact ⟨_, rfl, z, n, rfl, hi, by lia, ret H1 s1⟩
inductive sp_readnums (vs : List V) (H : Hp) (Q : VK) (E : XK) : Prop
  | mk (ns : List Nat) (c1 : vs = [.str (rowT ns)]) (c2 : ns.length ≤ 200) (c3 : ∀ n ∈ ns, n ≤ 10 ^ 9) (c4 : ∀ r H', Same H H' → H r = none → H' r = some (.tup (ns.map Vn)) → Q (.ref r) H') : sp_readnums vs H Q E
theorem sc_read_numbers : FnScope ["text"] ["text"] (defScope s_read_numbers) := ⟨rfl, rfl, rfl, by decide +kernel, rfl, by decide +kernel, by decide +kernel⟩
theorem ok_readnums (B : Bl mg) (h_read_number : Has P w K mg base 2 "read_number" ["text"] sp_readnum) (F : Fun K "read_numbers" "read_numbers" s_read_numbers f fd) : FnOk P w K mg base CX0 3 f fd ["text"] sp_readnums := by
  refine F.ok sc_read_numbers (fun vs H Q E h => ?_) (fun cdv A outer s H vs Q E hr h => ?_)
  · obtain ⟨ns, rfl, _⟩ := h; rfl
  obtain ⟨ns, rfl, hl, hn, ret⟩ := h
  refine ⟨_, (((@pt_not _ _ _ _ (@pt_val _ _ _ (isi_str>>>("isinstance",PyProof.Rows.boot_isinstance,((pv 0)>=>("str"⊂boot_ty_str)>=>pa_nil))) (by intro _; rfl)))*>((~~~ps_never),pss_nil))<=<((op_eq∪(pv 0)∪pe_str)*>((~~~((@pe_tup _ _ _ _ _ pa_nil)⁻¹)),pss_nil))<=<(~~~((call_tuple_of<*("tuple",boot_ty_tuple,((["part"]⊆([],[],["text"],s_read_numbers,(@pi_list _ _ _ _ (@pe_bm _ _ _ _ _ _ _ _ _ _ _ _ PySem.F.plainAttrs_str PySem.F.slot_str_split PySem.F.type_str_split mt_split (pv 0) (pe_str>=>pa_nil) (by rfl) (by rfl) (by rfl) (by rfl) (by rfl))),(0⊇["part"]),pifs_nil,(h_read_number<$>((pv 0)>=>pa_nil))))>=>pa_nil)))⁻¹))), ?_⟩
  try dsimp only [cxOf]
  refine ⟨_, rfl, _, "str", rfl, rfl, true, rfl, ?_⟩
  refine ite2 (fun c => absurd c (by decide)) (fun _ => ?_)
  dsimp only [tNext]
  refine ⟨_, rfl, rfl, _, rfl, ?_⟩
  refine ite2 (fun c => ?_) (fun c => ?_)
  · have e : rowT ns = dash := V.str.inj (of_decide_eq_true c)
    have e2 : ns = [] := Classical.byContradiction fun h => rowT_dash h e
    subst e2
    exact ⟨szl 0, fun p hp => ret p _ (same_new hp _) hp upd_same⟩
  have e : ns ≠ [] := fun e => c (by subst e; rfl)
  have lr := rowT_len hl hn
  dsimp only [tNext]
  refine ⟨_, rfl, rfl, rowT ns, dot, rfl, rfl, rfl, by have := sizeLine_eq; lia, fun l hl' => ?_⟩
  rw [rowT_split e]
  have s1 := same_new hl' (.lst ((ns.map numT).map V.str))
  have el : upd H l (.lst ((ns.map numT).map V.str)) l = some (.lst ((ns.map numT).map V.str)) := upd_same
  generalize upd H l (.lst ((ns.map numT).map V.str)) = H1 at s1 el ⊢
  refine ⟨l, rfl, ⟨_, SqL.of el⟩, ?_⟩
  refine comp_any (seqs_list (xs := (ns.map numT).map V.str)) (fun k acc H' => Same H1 H' ∧ acc = (ns.take k).map Vn) ⟨Same.refl _, rfl⟩ (fun i acc H' _ h => SqL.of (h.1 _ _ el)) ?_ ?_ ?_
  · rintro k acc H' hk ⟨_, rfl⟩
    rw [List.length_map, List.length_take]; exact small1000 (by lia)
  · rintro k acc v H2 H2' hk ⟨s2, rfl⟩ ⟨rfl, ev⟩
    rw [List.length_map, List.length_map] at hk
    rw [List.getElem?_map, List.getElem?_map, List.getElem?_eq_getElem hk] at ev
    cases ev
    have hk2 := hn _ (List.getElem_mem hk)
    refine ⟨_, rfl, numT ns[k], ns[k], rfl, figB_num hk2, numT_read (by lia), hk2, fun H3 s3 => ⟨s2.trans s3, ?_⟩⟩
    rw [List.take_succ_eq_append_getElem hk, List.map_append]; rfl
  rw [List.length_map, List.length_map, List.take_length]
  rintro acc H2 ⟨s2, rfl⟩ D hD
  have s3 := (s1.trans s2).trans (same_new hD (.lst (ns.map Vn)))
  refine ⟨D, _, rfl, .inl ⟨SqL.of upd_same, fun r hr => ?_⟩⟩
  exact ret r _ (s3.trans (same_new hr _)) (s3.free hr) upd_same
inductive sp_readfield (vs : List V) (H : Hp) (Q : VK) (E : XK) : Prop
  | mk (p m t : Nat) (c1 : vs = [.str (rowT [p, m, t])]) (c2 : Good p m t) (c3 : t < p ^ m) (c4 : ∀ r H', Same H H' → H r = none → H' r = some (.tup [Vn p, Vn m, Vn t]) → Q (.ref r) H') : sp_readfield vs H Q E
theorem sc_read_field : FnScope ["text", "field"] ["text"] (defScope s_read_field) := ⟨rfl, rfl, rfl, by decide +kernel, rfl, by decide +kernel, by decide +kernel⟩
theorem ok_readfield (B : Bl mg) (h_read_numbers : Has P w K mg base 3 "read_numbers" ["text"] sp_readnums) (h_is_field : Has P w K mg base 6 "is_field" ["thing"] (sp_isfield K)) (F : Fun K "read_field" "read_field" s_read_field f fd) : FnOk P w K mg base CX0 7 f fd ["text"] sp_readfield := by
  refine F.ok sc_read_field (fun vs H Q E h => ?_) (fun cdv A outer s H vs Q E hr h => ?_)
  · obtain ⟨p, m, t, rfl, _⟩ := h; rfl
  obtain ⟨p, m, t, rfl, G, ht, ret⟩ := h
  have hp := G.hp
  have hm := G.hm
  have hQ := G.hq
  have hp2 := p_le hp hm hQ
  have hm6 := m_le hp hQ
  refine ⟨_, ((1<|>sc_read_field.nd<|>(h_read_numbers<$>((pv 0)>=>pa_nil)))<=<((@pt_not _ _ _ _ (@pt_val _ _ _ (h_is_field<$>((pv 1)>=>pa_nil)) (by intro _; rfl)))*>((~~~ps_never),pss_nil))<=<(~~~((pv 1)⁻¹))), ?_⟩
  try dsimp only [cxOf]
  refine ⟨_, rfl, [p, m, t], rfl, show 3 ≤ 200 by decide, fun n h => ?_, fun r H1 s1 nr er => ?_⟩
  · simp only [List.mem_cons, List.not_mem_nil, or_false] at h
    rcases h with rfl | rfl | rfl <;> lia
  dsimp only [gName]
  refine ⟨_, rfl, r, p, m, t, rfl, SqT.of er, G, fun H2 s2 => ⟨true, rfl, ?_⟩⟩
  refine ite2 (fun c => absurd c (by decide)) (fun _ => ?_)
  exact ⟨_, rfl, ret r H2 (s1.trans s2) nr (s2 _ _ er)⟩
inductive sp_readwheel (vs : List V) (H : Hp) (Q : VK) (E : XK) : Prop
  | mk (p m t few root n : Nat) (marks : List Nat) (c1 : vs = [.str (whT p m t few root marks)]) (c2 : Good p m t) (c3 : t < p ^ m) (c4 : Whl p m t few root n marks) (c5 : n ≤ 63) (c6 : ∀ r fa mk H', Same H H' → H' r = some (.tup [.ref fa, Vn few, Vn root, .ref mk]) → H' fa = some (.tup [Vn p, Vn m, Vn t]) → H' mk = some (.tup (marks.map Vn)) → Q (.ref r) H') : sp_readwheel vs H Q E
theorem whT_len {p m t few root : Nat} {marks : List Nat} (hp : p ≤ 10 ^ 9) (hm : m ≤ 10 ^ 9) (ht : t ≤ 10 ^ 9) (hf : few ≤ 10 ^ 9) (hr : root ≤ 10 ^ 9) (hl : marks.length ≤ 200) (hk : ∀ x ∈ marks, x ≤ 10 ^ 9) : (whT p m t few root marks).length ≤ 9000 := by
  have h1 := rowT_len (ns := [p, m, t]) (show 3 ≤ 200 by decide) fun n h => by
    simp only [List.mem_cons, List.not_mem_nil, or_false] at h
    rcases h with rfl | rfl | rfl <;> assumption
  have h2 := numT_len (n := few) (by lia)
  have h3 := numT_len (n := root) (by lia)
  have h4 := rowT_len hl hk
  refine Nat.le_trans (StrLaws.join_length_le _ _) ?_
  show (rowT [p, m, t]).length + ((numT few).length + ((numT root).length + ((rowT marks).length + 0))) + 4 * 1 ≤ 9000
  lia
theorem sc_read_wheel : FnScope ["text", "parts", "wheel"] ["text"] (defScope s_read_wheel) := ⟨rfl, rfl, rfl, by decide +kernel, rfl, by decide +kernel, by decide +kernel⟩
theorem ok_readwheel (B : Bl mg) (h_read_number : Has P w K mg base 2 "read_number" ["text"] sp_readnum) (h_read_numbers : Has P w K mg base 3 "read_numbers" ["text"] sp_readnums) (h_read_field : Has P w K mg base 7 "read_field" ["text"] sp_readfield) (h_is_wheel : Has P w K mg base 7 "is_wheel" ["thing"] (sp_iswheel K)) (F : Fun K "read_wheel" "read_wheel" s_read_wheel f fd) : FnOk P w K mg base CX0 8 f fd ["text"] sp_readwheel := by
  refine F.ok sc_read_wheel (fun vs H Q E h => ?_) (fun cdv A outer s H vs Q E hr h => ?_)
  · obtain ⟨p, m, t, few, root, n, marks, rfl, _⟩ := h; rfl
  obtain ⟨p, m, t, few, root, n, marks, rfl, G, ht, W, hn, ret⟩ := h
  have hp := G.hp
  have hm := G.hm
  have hQ := G.hq
  have hp2 := p_le hp hm hQ
  have hm6 := m_le hp hQ
  have hfm : few ≤ m := Nat.le_of_dvd (by lia) (Nat.dvd_of_mod_eq_zero W.fewm)
  have hrq := W.rq
  have hml := nodup_lenM n marks (W.asc.imp fun h => Nat.ne_of_lt h) W.lt
  have hmk : ∀ x ∈ marks, x ≤ 10 ^ 9 := fun x hx => by have := W.lt x hx; lia
  have lw := whT_len (p := p) (m := m) (t := t) (few := few) (root := root) (marks := marks) (by lia) (by lia) (by lia) (by lia) (by lia) (by lia) hmk
  refine ⟨_, (((@pt_not _ _ _ _ (@pt_val _ _ _ (isi_str>>>("isinstance",PyProof.Rows.boot_isinstance,((pv 0)>=>("str"⊂boot_ty_str)>=>pa_nil))) (by intro _; rfl)))*>((~~~ps_never),pss_nil))<=<(1<|>sc_read_wheel.nd<|>(@pe_bm _ _ _ _ _ _ _ _ _ _ _ _ PySem.F.plainAttrs_str PySem.F.slot_str_split PySem.F.type_str_split mt_split (pv 0) (pe_str>=>pa_nil) (by rfl) (by rfl) (by rfl) (by rfl) (by rfl)))<=<((op_ne∪(call_len_seq>>>("len",PySem.boot_len,((pv 1)>=>pa_nil)))∪pe_int)*>((~~~ps_never),pss_nil))<=<(2<|>sc_read_wheel.nd<|>(@pe_tup _ _ _ _ _ ((h_read_field<$>((ix_list<<<(pv 1)<<<pe_int)>=>pa_nil))>=>(h_read_number<$>((ix_list<<<(pv 1)<<<pe_int)>=>pa_nil))>=>(h_read_number<$>((ix_list<<<(pv 1)<<<pe_int)>=>pa_nil))>=>(h_read_numbers<$>((ix_list<<<(pv 1)<<<pe_int)>=>pa_nil))>=>pa_nil)))<=<((@pt_not _ _ _ _ (@pt_val _ _ _ (h_is_wheel<$>((pv 2)>=>pa_nil)) (by intro _; rfl)))*>((~~~ps_never),pss_nil))<=<(~~~((pv 2)⁻¹))), ?_⟩
  try dsimp only [cxOf]
  refine ⟨_, rfl, _, "str", rfl, rfl, true, rfl, ?_⟩
  refine ite2 (fun c => absurd c (by decide)) (fun _ => ?_)
  dsimp only [tNext]
  refine ⟨_, rfl, rfl, whT p m t few root marks, stroke, rfl, rfl, rfl, by have := sizeLine_eq; lia, fun l hl => ?_⟩
  rw [whT_split]
  have s1 := same_new hl (.lst ([rowT [p, m, t], numT few, numT root, rowT marks].map V.str))
  have el : upd H l (.lst ([rowT [p, m, t], numT few, numT root, rowT marks].map V.str)) l = some (.lst [.str (rowT [p, m, t]), .str (numT few), .str (numT root), .str (rowT marks)]) := upd_same
  generalize upd H l (.lst ([rowT [p, m, t], numT few, numT root, rowT marks].map V.str)) = H1 at s1 el ⊢
  dsimp only [gName]
  refine ⟨_, rfl, l, _, rfl, .inl (SqL.of el), rfl, _, rfl, ?_⟩
  refine ite2 (fun c => absurd c (by simp)) (fun _ => ?_)
  dsimp only [tNext]
  refine ⟨_, rfl, l, _, _, _, rfl, rfl, SqL.of el, atI_nat (j := 0) rfl, p, m, t, rfl, G, ht, fun fa H2 s2 nf ef => ?_⟩
  refine ⟨_, rfl, l, _, _, _, rfl, rfl, SqL.of (s2 _ _ el), atI_nat (j := 1) rfl, numT few, few, rfl, figB_num (by lia), numT_read (by lia), by lia, fun H3 s3 => ?_⟩
  have t3 := s2.trans s3
  refine ⟨_, rfl, l, _, _, _, rfl, rfl, SqL.of (t3 _ _ el), atI_nat (j := 2) rfl, numT root, root, rfl, figB_num (by lia), numT_read (by lia), by lia, fun H4 s4 => ?_⟩
  have t4 := t3.trans s4
  refine ⟨_, rfl, l, _, _, _, rfl, rfl, SqL.of (t4 _ _ el), atI_nat (j := 3) rfl, marks, rfl, by lia, hmk, fun mk H5 s5 nm em => ?_⟩
  refine ⟨szl 4, fun wa hwa => ?_⟩
  have s6 := same_new hwa (.tup [.ref fa, Vn few, Vn root, .ref mk])
  have ew : upd H5 wa (.tup [.ref fa, Vn few, Vn root, .ref mk]) wa = some (.tup [.ref fa, Vn few, Vn root, .ref mk]) := upd_same
  have ef6 := s6 _ _ (s5 _ _ (s4 _ _ (s3 _ _ ef)))
  have em6 := s6 _ _ em
  have t6 := ((s1.trans t4).trans s5).trans s6
  generalize upd H5 wa (.tup [.ref fa, Vn few, Vn root, .ref mk]) = H6 at ew ef6 em6 t6 ⊢
  dsimp only [gName]
  refine ⟨_, rfl, wa, fa, mk, p, m, t, few, root, n, marks, rfl, ⟨ew, em6⟩, SqT.of ef6, G, W, hn, fun H7 s7 => ⟨true, rfl, ?_⟩⟩
  refine ite2 (fun c => absurd c (by decide)) (fun _ => ?_)
  exact ⟨_, rfl, ret wa fa mk H7 (t6.trans s7) (s7 _ _ ew) (s7 _ _ ef6) (s7 _ _ em6)⟩
end
end My

end
section
set_option Elab.async false
set_option linter.all false
set_option maxRecDepth 100000
set_option maxHeartbeats 4000000
namespace My
open PySem L2 Dg
section
variable {P : Program} {w : World} {mg : Str → Option Value} {base : Heap} {f : Addr} {fd : FuncData}
theorem join_snoc : ∀ (xs : List Str) (y : Str), xs ≠ [] → Str.join dot (xs ++ [y]) = Str.join dot xs ++ dot ++ y
  | [], _, h => absurd rfl h
  | [x], y, _ => rfl
  | x :: z :: r, y, _ => by
    have := join_snoc (z :: r) y (by simp)
    show x ++ dot ++ Str.join dot (z :: r ++ [y]) = (x ++ dot ++ Str.join dot (z :: r)) ++ dot ++ y
    rw [this]
    simp only [Str.append_assoc]
theorem join_pos {ns : List Nat} (h : ns ≠ []) : 1 ≤ (Str.join dot (ns.map numT)).length := by
  cases ns with
  | nil => exact absurd rfl h
  | cons n r =>
    have h1 := numT_pos n
    cases r with
    | nil => exact h1
    | cons m r =>
      show 1 ≤ (numT n ++ dot ++ Str.join dot ((m :: r).map numT)).length
      rw [Str.length_append, Str.length_append]; lia
theorem join_le {ns : List Nat} (hl : ns.length ≤ 200) (hn : ∀ n ∈ ns, n ≤ 10 ^ 9) : (Str.join dot (ns.map numT)).length ≤ 2200 := by
  by_cases e : ns = []
  · subst e; decide
  · have := rowT_len hl hn
    unfold rowT at this
    rwa [if_neg e] at this
inductive sp_lpoints (K : PySem.W.Frag) (vs : List V) (H : Hp) (Q : VK) (E : XK) : Prop
  | mk (a : Addr) (ns : List Nat) (c1 : vs = [.ref a]) (c2 : SqT K H a (ns.map Vn)) (c3 : ns.length ≤ 200) (c4 : ∀ n ∈ ns, n ≤ 10 ^ 9) (c5 : ∀ H', Same H H' → Q (.str (rowT ns)) H') : sp_lpoints K vs H Q E
theorem sc__law_points : FnScope ["_law_row", "_law_text", "_law_number_here"] ["_law_row"] (defScope s__law_points) := ⟨rfl, rfl, rfl, by decide +kernel, rfl, by decide +kernel, by decide +kernel⟩
theorem ok_lpoints (B : Bl mg) (F : Fun K "_law_points" "_law_points" s__law_points f fd) : FnOk P w K mg base CX0 1 f fd ["_law_row"] (sp_lpoints K) := by
  refine F.ok sc__law_points (fun vs H Q E h => ?_) (fun cdv A outer s H vs Q E hr h => ?_)
  · obtain ⟨a, ns, rfl, _⟩ := h; rfl
  obtain ⟨a, ns, rfl, ha, hl, hn, ret⟩ := h
  refine ⟨_, ((1<|>sc__law_points.nd<|>pe_str)<=<((@pi_tup _ _ _ _ (pv 0))<&>((2&&&sc__law_points.nd),(~~~(1<|>sc__law_points.nd<|>(op_addS|||(op_addS|||(pv 1)|||(op_mulS|||pe_str|||(call_int1<*("int",boot_ty_int,((@pe_cmpR _ _ _ _ _ _ _ _ op_ne (pv 1) pe_str (nomark _))>=>pa_nil)))))|||((call_strS hr.gd hr.units)<*("str",boot_ty_str,((pv 2)>=>pa_nil))))))))<=<(~~~((@pe_ifExp _ _ _ _ _ _ _ _ ((op_neT hr.units0)∪(pv 0)∪(@pe_tup _ _ _ _ _ pa_nil)) (pv 1) pe_str)⁻¹))), ?_⟩
  dsimp only [gName]
  refine ⟨_, rfl, a, rfl, ⟨_, ha⟩, ?_⟩
  let I1 : Nat → St → Hp → Prop := fun i σ H' => H' = H ∧ ∃ s2, σ = [some (.ref a), some (.str (Str.join dot ((ns.take i).map numT))), s2]
  refine for_any (seqs_tup (xs := ns.map Vn)) I1 ⟨rfl, _, rfl⟩ (fun _ _ _ _ h => h.1 ▸ ha) ?_ ?_
  · rintro i x σ H1 H1' hi ⟨rfl, s2, rfl⟩ ⟨rfl, ex⟩
    rw [List.length_map] at hi
    rw [List.getElem?_map, List.getElem?_eq_getElem hi] at ex
    cases ex
    have hni := hn _ (List.getElem_mem hi)
    have lt := join_le (ns := ns.take i) (by rw [List.length_take]; lia) fun n h => hn n (List.mem_of_mem_take h)
    have hz := sizeLine_eq
    dsimp only [gName]
    refine ⟨_, rfl, _, rfl, rfl, ?_⟩
    refine .inr ⟨_, rfl, ?_⟩
    have l1 := numT_len (n := ns[i]) (by lia)
    have et : ns.take (i + 1) = ns.take i ++ [ns[i]] := List.take_succ_eq_append_getElem hi
    rcases Nat.eq_zero_or_pos i with e | e
    · have e0 : ns.take i = [] := by rw [e]; rfl
      rw [e0]
      refine ⟨_, _, rfl, rfl, Nat.le_trans (show (Str.ofString ".").length ≤ 1 by decide) (by lia), .inl ⟨rfl, ?_⟩⟩
      refine ⟨_, _, rfl, rfl, Nat.le_trans (show (Str.join dot []).length + Str.empty.length ≤ 1 by decide) (by lia), ?_⟩
      refine ⟨_, rfl, _, numT ns[i], rfl, .inl ⟨ns[i], rfl, log_small hni, rfl⟩, ?_⟩
      refine ⟨_, _, rfl, rfl, by rw [Str.length_append, show (Str.join dot (List.map numT [])).length = 0 from rfl, show Str.empty.length = 0 from rfl]; lia, ?_⟩
      refine ⟨rfl, some (Vn ns[i]), ?_⟩
      rw [et, e0, show Str.join dot (List.map numT []) ++ Str.empty = Str.empty from rfl, Str.empty_append]; rfl
    · have ne : ns.take i ≠ [] := fun h => by
        have := congrArg List.length h
        rw [List.length_take, List.length_nil] at this
        lia
      have lp := join_pos ne
      have nt : Str.join dot ((ns.take i).map numT) ≠ Str.ofString "" := fun h => by rw [h] at lp; exact absurd lp (by decide)
      refine ⟨_, _, rfl, rfl, Nat.le_trans (show (Str.ofString ".").length ≤ 1 by decide) (by lia), .inr ⟨by rw [if_pos (by simpa using nt)], ?_⟩⟩
      refine ⟨_, _, rfl, rfl, by rw [show (Str.ofString ".").length = 1 from rfl]; lia, ?_⟩
      refine ⟨_, rfl, _, numT ns[i], rfl, .inl ⟨ns[i], rfl, log_small hni, rfl⟩, ?_⟩
      refine ⟨_, _, rfl, rfl, by rw [Str.length_append, show (Str.ofString ".").length = 1 from rfl]; lia, ?_⟩
      refine ⟨rfl, some (Vn ns[i]), ?_⟩
      rw [et, List.map_append, show List.map numT [ns[i]] = [numT ns[i]] from rfl, join_snoc _ _ (by simpa using ne)]; rfl
  · rw [List.length_map]
    rintro σ H1 ⟨rfl, s2, rfl⟩
    rw [List.take_length]
    refine ⟨_, rfl, szl 0, fun z hz => ?_⟩
    have s1 := same_new hz (.tup [])
    refine ⟨a, z, ns.map (fun n : Nat => (n : Int)), [], rfl, rfl, by rw [mapI]; exact Same.tup s1 ha, SqT.of upd_same, ?_⟩
    have r1 := ret _ s1
    generalize upd H1 z (.tup []) = H2 at r1 ⊢
    refine ⟨_, rfl, ?_⟩
    refine ite2 (fun c => ?_) (fun c => ?_)
    · have e : ns ≠ [] := fun e => by subst e; simp at c
      unfold rowT at r1
      rw [if_neg e] at r1
      exact ⟨_, rfl, r1⟩
    · have e : ns = [] := by simpa using c
      subst e
      exact r1
inductive sp_lsomenum (vs : List V) (H : Hp) (Q : VK) (E : XK) : Prop
  | mk (pu g : Addr) (c1 : vs = [.ref pu]) (c2 : Pu H pu g) (c3 : ∀ (n : Nat) H', n ≤ 10 ^ 9 → Pu H' pu g → SameX pu g H H' → Q (Vn n) H') : sp_lsomenum vs H Q E
theorem sc__law_some_number : FnScope ["_law_purse_here", "_law_way", "_law_small", "_law_great"] ["_law_purse_here"] (defScope s__law_some_number) := ⟨rfl, rfl, rfl, by decide +kernel, rfl, by decide +kernel, by decide +kernel⟩
theorem ok_lsomenum (B : Bl mg) (h__law_pick : Has P w K mg base 1 "_law_pick" ["_law_purse_here", "_law_many"] sp_pick) (F : Fun K "_law_some_number" "_law_some_number" s__law_some_number f fd) : FnOk P w K mg base CX0 2 f fd ["_law_purse_here"] sp_lsomenum := by
  refine F.ok sc__law_some_number (fun vs H Q E h => ?_) (fun cdv A outer s H vs Q E hr h => ?_)
  · obtain ⟨pu, g, rfl, _⟩ := h; rfl
  obtain ⟨pu, g, rfl, hP, ret⟩ := h
  refine ⟨_, ((@ps_par3 _ _ 1 2 3 _ _ _ _ _ _ _ _ _ _ _ _ _ _ rfl sc__law_some_number.nd rfl rfl rfl (by decide) rfl rfl rfl ((h__law_pick<$>((pv 0)>=>pe_int>=>pa_nil))>=>(h__law_pick<$>((pv 0)>=>pe_int>=>pa_nil))>=>(h__law_pick<$>((pv 0)>=>(op_pow|||pe_int|||pe_int)>=>pa_nil))>=>pa_nil) rfl (by rfl))<=<(~~~((ix_list<<<(@pe_lst _ _ _ _ ((pv 2)>=>(pv 3)>=>(op_sub|||(op_pow|||pe_int|||pe_int)|||(pv 2))>=>(ix_list<<<(@pe_lst _ _ _ _ (pe_int>=>pe_int>=>pe_int>=>pe_int>=>pe_int>=>(op_pow|||pe_int|||pe_int)>=>pa_nil))<<<(op_mod|||(pv 2)|||pe_int))>=>(op_mul|||(pv 2)|||(op_pow|||pe_int|||pe_int))>=>pa_nil))<<<(pv 1))⁻¹))), ?_⟩
  refine ⟨_, rfl, pu, g, 5, rfl, hP, by lia, by lia, fun way H1 hway hP1 sx1 => ?_⟩
  refine ⟨_, rfl, pu, g, 12, rfl, hP1, by lia, by lia, fun sm H2 hsm hP2 sx2 => ?_⟩
  refine ⟨_, rfl, _, _, rfl, rfl, ⟨by decide, by decide, by decide⟩, pu, g, 10 ^ 9, rfl, hP2, by lia, by lia, fun gr H3 hgr hP3 sx3 => ?_⟩
  refine ⟨_, _, _, rfl, ?_⟩
  have pw : CPow 10 9 ∧ CPow 10 7 := ⟨⟨by decide, by decide, by decide⟩, ⟨by decide, by decide, by decide⟩⟩
  refine ⟨_, rfl, _, rfl, _, _, rfl, rfl, pw.1, _, rfl, _, _, rfl, rfl, _, _, rfl, rfl, pw.1, szl 6, fun l1 hl1 => ?_⟩
  have t1 := same_new hl1 (.lst [V.int 0, V.int 9, V.int 10, V.int 99, V.int 100, V.int (10 ^ Int.toNat 9)])
  obtain ⟨u, hu, eu⟩ : ∃ u : Nat, u ≤ 10 ^ 9 ∧ atI [V.int 0, V.int 9, V.int 10, V.int 99, V.int 100, V.int (10 ^ Int.toNat 9)] ((sm : Int) % 6) = some (Vn u) := by
    have h6 : sm % 6 < 6 := Nat.mod_lt _ (by decide)
    rw [show (sm : Int) % 6 = ((sm % 6 : Nat) : Int) by lia]
    generalize sm % 6 = k at h6
    rcases k with _ | _ | _ | _ | _ | _ | k
    · exact ⟨0, by decide, rfl⟩
    · exact ⟨9, by decide, rfl⟩
    · exact ⟨10, by decide, rfl⟩
    · exact ⟨99, by decide, rfl⟩
    · exact ⟨100, by decide, rfl⟩
    · exact ⟨10 ^ 9, by decide, rfl⟩
    · lia
  refine ⟨_, rfl, _, _, rfl, rfl, show (0 : Int) < 6 by decide, l1, _, _, Vn u, rfl, rfl, SqL.of upd_same, eu, ?_⟩
  have hP4 := hP3.same t1
  have sx4 := ((sx1.trans sx2).trans sx3).trans (Same.x t1)
  generalize upd H3 l1 (.lst [V.int 0, V.int 9, V.int 10, V.int 99, V.int 100, V.int (10 ^ Int.toNat 9)]) = H4 at hP4 sx4 ⊢
  refine ⟨_, rfl, _, _, rfl, rfl, pw.2, _, _, rfl, rfl, .inl ⟨by lia, by lia⟩, szl 5, fun l2 hl2 => ?_⟩
  have t2 := same_new hl2 (.lst [Vn sm, Vn gr, V.int (10 ^ Int.toNat 9 - (sm : Int)), Vn u, V.int ((sm : Int) * 10 ^ Int.toNat 7)])
  obtain ⟨v, hv, ev⟩ : ∃ v : Nat, v ≤ 10 ^ 9 ∧ atI [Vn sm, Vn gr, V.int (10 ^ Int.toNat 9 - (sm : Int)), Vn u, V.int ((sm : Int) * 10 ^ Int.toNat 7)] (way : Int) = some (Vn v) := by
    rcases way with _ | _ | _ | _ | _ | k
    · exact ⟨sm, by lia, rfl⟩
    · exact ⟨gr, by lia, rfl⟩
    · exact ⟨10 ^ 9 - sm, by lia, by rw [show (10 : Int) ^ Int.toNat 9 - (sm : Int) = ((10 ^ 9 - sm : Nat) : Int) by simp; lia]; rfl⟩
    · exact ⟨u, hu, rfl⟩
    · exact ⟨sm * 10 ^ 7, by lia, by rw [show (sm : Int) * 10 ^ Int.toNat 7 = ((sm * 10 ^ 7 : Nat) : Int) by simp]; rfl⟩
    · lia
  refine ⟨_, rfl, l2, _, _, Vn v, rfl, rfl, SqL.of upd_same, ev, ?_⟩
  exact ret v _ hv (hP4.same t2) (sx4.trans (Same.x t2))
end
end My

end
section
set_option Elab.async false
set_option linter.all false
set_option maxRecDepth 100000
set_option maxHeartbeats 4000000
set_option exponentiation.threshold 1100
namespace My
open PySem L2 Dg
section
variable {P : Program} {w : World} {mg : Str → Option Value} {base : Heap} {f : Addr} {fd : FuncData}
theorem dk_nat {n : Nat} (h : n ≤ 10 ^ 9) : DkA (.int (n : Int)) 40 0 := by
  have h1 := dk_int (i := (n : Int)) (by rw [Int.natAbs_natCast]; exact Nat.lt_of_le_of_lt h (by decide))
  refine ⟨h1.sh, h1.dp, h1.sl, ?_⟩
  show (if (n : Int) == 0 then 0 else (n : Int).natAbs.log2 + 1) ≤ 40
  rw [Int.natAbs_natCast]
  split
  · lia
  · rename_i c
    have h0 : n ≠ 0 := fun e => c (by subst e; rfl)
    have := (Nat.log2_lt h0).mpr (Nat.lt_of_le_of_lt h (show 10 ^ 9 < 2 ^ 39 by decide))
    lia
noncomputable def rowD (ns : List Nat) : PyData := .tuple (ns.map fun n : Nat => PyData.int (n : Int))
theorem dk_row {ns : List Nat} (hl : ns.length ≤ 200) (h : ∀ n ∈ ns, n ≤ 10 ^ 9) : DkA (rowD ns) 8200 1 := by
  refine (dk_tup (W := 40) (D := 0) fun d hd => ?_).mono ?_ (Nat.le_refl _)
  · obtain ⟨n, hn, rfl⟩ := List.mem_map.mp hd
    exact dk_nat (h n hn)
  · rw [List.length_map]; lia
theorem dk_wh {p m t few root : Nat} {marks : List Nat} (hp : p ≤ 10 ^ 9) (hm : m ≤ 10 ^ 9) (ht : t ≤ 10 ^ 9) (hf : few ≤ 10 ^ 9) (hr : root ≤ 10 ^ 9) (hl : marks.length ≤ 200) (hk : ∀ x ∈ marks, x ≤ 10 ^ 9) : DkA (whD p m t few root marks) 33000 2 := by
  have h1 := dk_row (ns := [p, m, t]) (show 3 ≤ 200 by decide) fun n h => by
    simp only [List.mem_cons, List.not_mem_nil, or_false] at h
    rcases h with rfl | rfl | rfl <;> assumption
  refine (dk_tup (W := 8200) (D := 1) (ds := [rowD [p, m, t], .int (few : Int), .int (root : Int), rowD marks]) fun d hd => ?_).mono (show (8200 + 1) * 4 ≤ 33000 by decide) (Nat.le_refl _)
  simp only [List.mem_cons, List.not_mem_nil, or_false] at hd
  rcases hd with rfl | rfl | rfl | rfl
  · exact h1
  · exact (dk_nat hf).mono (by decide) (by decide)
  · exact (dk_nat hr).mono (by decide) (by decide)
  · exact dk_row hl hk
theorem sc_law : FnScope ["_law_script", "_law_purse_here", "_law_turn", "_law_row", "_law_table_here", "_law_wheel_here", "_law_field_here", "_law_few", "_law_root", "_law_marks", "_law_text", "_law_again"] ["_law_script"] (defScope s_law) := ⟨rfl, rfl, rfl, by decide +kernel, rfl, by decide +kernel, by decide +kernel⟩
theorem ok_law (B : Bl mg) (h__law_purse : Has P w K mg base 1 "_law_purse" ["_law_script"] (sp_purse K)) (h__law_pick : Has P w K mg base 1 "_law_pick" ["_law_purse_here", "_law_many"] sp_pick) (h__law_some_number : Has P w K mg base 2 "_law_some_number" ["_law_purse_here"] sp_lsomenum) (h__law_wheel : Has P w K mg base 5 "_law_wheel" ["_law_purse_here", "_law_most"] sp_lwheel) (h__law_points : Has P w K mg base 1 "_law_points" ["_law_row"] (sp_lpoints K)) (h_show_numbers : Has P w K mg base 2 "show_numbers" ["row"] (sp_shownums K)) (h_show_field : Has P w K mg base 3 "show_field" ["field"] (sp_shownums K)) (h_show_wheel : Has P w K mg base 4 "show_wheel" ["wheel"] (sp_showwheel K)) (h_read_numbers : Has P w K mg base 3 "read_numbers" ["text"] sp_readnums) (h_read_field : Has P w K mg base 7 "read_field" ["text"] sp_readfield) (h_read_wheel : Has P w K mg base 8 "read_wheel" ["text"] sp_readwheel) (F : Fun K "law" "law" s_law f fd) : FnOk P w K mg base CX0 9 f fd ["_law_script"] (sp_law K) := by
  refine F.ok sc_law (fun vs H Q E h => ?_) (fun cdv A outer s H vs Q E hr h => ?_)
  · obtain ⟨a, ns, rfl, _⟩ := h; rfl
  obtain ⟨a, ns, rfl, ha, ret⟩ := h
  refine ⟨_, ((1<|>sc_law.nd<|>(h__law_purse<$>((pv 0)>=>pa_nil)))<=<((↑((op_add|||pe_int|||((call_min2 rfl)>>>("min",boot_bi_min,(pe_int>=>(call_len_seq>>>("len",PySem.boot_len,((pv 0)>=>pa_nil)))>=>pa_nil))))>=>pa_nil))<&>((2&&&sc_law.nd),((3<|>sc_law.nd<|>(call_tuple_of<*("tuple",boot_ty_tuple,((["_law_k"]⊆(["_law_purse_here"],[1],["_law_script", "_law_purse_here", "_law_turn", "_law_row", "_law_table_here", "_law_wheel_here", "_law_field_here", "_law_few", "_law_root", "_law_marks", "_law_text", "_law_again"],s_law,(↑((h__law_pick<$>((pv 1)>=>pe_int>=>pa_nil))>=>pa_nil)),(0⊇["_law_k", "_law_purse_here"]),pifs_nil,(h__law_some_number<$>((pv 1)>=>pa_nil))))>=>pa_nil))))<=<(3<|>sc_law.nd<|>(op_repT1|||(pv 3)|||(ix_list<<<(@pe_lst _ _ _ _ (pe_int>=>pe_int>=>pe_int>=>pe_int>=>pa_nil))<<<(h__law_pick<$>((pv 1)>=>pe_int>=>pa_nil)))))<=<((h__law_wheel<$>((pv 1)>=>(ix_list<<<(@pe_lst _ _ _ _ (pe_int>=>pe_int>=>pa_nil))<<<(call_int1<*("int",boot_ty_int,((@pe_cmpR _ _ _ _ _ _ _ _ op_eq (h__law_pick<$>((pv 1)>=>pe_int>=>pa_nil)) pe_int (nomark _))>=>pa_nil))))>=>pa_nil))≈((4&&&sc_law.nd)∩((5&&&sc_law.nd)∩pgs_nil)))<=<((pv 5)≈((6&&&sc_law.nd)∩((7&&&sc_law.nd)∩((8&&&sc_law.nd)∩((9&&&sc_law.nd)∩pgs_nil)))))<=<(10<|>sc_law.nd<|>(@pe_bm _ _ _ _ _ _ _ _ _ _ _ _ PySem.F.plainAttrs_str PySem.F.slot_str_join PySem.F.type_str_join mt_join pe_str ((@pe_lst _ _ _ _ ((h__law_points<$>((pv 6)>=>pa_nil))>=>((call_strS hr.gd hr.units)<*("str",boot_ty_str,((pv 7)>=>pa_nil)))>=>((call_strS hr.gd hr.units)<*("str",boot_ty_str,((pv 8)>=>pa_nil)))>=>(h__law_points<$>((pv 9)>=>pa_nil))>=>pa_nil))>=>pa_nil) (by rfl) (by rfl) (by rfl) (by rfl) (by rfl)))<=<(~~~((↑(pe_int>=>pa_nil))<&>((11&&&sc_law.nd),(((@PW.pt _ _ _ (@pw_or _ _ _ _ _ _ _ (op_ne∪(h_show_numbers<$>((pv 3)>=>pa_nil))∪(h__law_points<$>((pv 3)>=>pa_nil))) (@pw_or1 _ _ _ _ (op_ne∪((call_reprA hr.gd hr.units)>>>("repr",PyProof.Rows.boot_repr,((h_read_numbers<$>((h__law_points<$>((pv 3)>=>pa_nil))>=>pa_nil))>=>pa_nil)))∪((call_reprA hr.gd hr.units)>>>("repr",PyProof.Rows.boot_repr,((pv 3)>=>pa_nil)))))))*>((~~~(pe_bl⁻¹)),pss_nil))<=<((@PW.pt _ _ _ (@pw_or _ _ _ _ _ _ _ (op_ne∪(h_show_field<$>((pv 6)>=>pa_nil))∪(h__law_points<$>((pv 6)>=>pa_nil))) (@pw_or1 _ _ _ _ (op_ne∪((call_reprA hr.gd hr.units)>>>("repr",PyProof.Rows.boot_repr,((h_read_field<$>((h__law_points<$>((pv 6)>=>pa_nil))>=>pa_nil))>=>pa_nil)))∪((call_reprA hr.gd hr.units)>>>("repr",PyProof.Rows.boot_repr,((pv 6)>=>pa_nil)))))))*>((~~~(pe_bl⁻¹)),pss_nil))<=<(~~~((@PW.pt _ _ _ (@pw_or _ _ _ _ _ _ _ (op_ne∪(h_show_wheel<$>((pv 5)>=>pa_nil))∪(pv 10)) (@pw_or1 _ _ _ _ (op_ne∪((call_reprA hr.gd hr.units)>>>("repr",PyProof.Rows.boot_repr,((h_read_wheel<$>((pv 10)>=>pa_nil))>=>pa_nil)))∪((call_reprA hr.gd hr.units)>>>("repr",PyProof.Rows.boot_repr,((pv 5)>=>pa_nil)))))))*>((~~~(pe_bl⁻¹)),pss_nil))))))))))<=<(~~~(pe_bl⁻¹))), ?_⟩
  try dsimp only [cxOf]
  refine ⟨_, rfl, a, ns, rfl, ha, fun pu g H1 n1 n2 s1 hP1 => ?_⟩
  have ha1 : SqL K H1 a (ns.map V.int) := by
    rcases ha with (h | ⟨o, h⟩) | h
    · exact .inl (.inl (s1 _ _ h))
    · exact .inl (.inr ⟨o, s1 _ _ h⟩)
    · exact .inr h
  dsimp only [gName]
  obtain ⟨T, eT, hT⟩ : ∃ T : Nat, (1 + if (ns.length : Int) < 7 then (ns.length : Int) else 7) = (T : Int) ∧ T ≤ 8 := ⟨1 + min ns.length 7, by split <;> lia, by lia⟩
  refine ⟨_, rfl, a, _, rfl, .inl ha1, _, _, rfl, _, _, rfl, rfl, (T : Int), by rw [List.length_map, eT], by lia, by lia, ?_⟩
  let I1 : Nat → St → Hp → Prop := fun i σ H' => Pu H' pu g ∧ ∃ s2 s3 s4 s5 s6 s7 s8 s9 s10 s11, σ = [some (.ref a), some (.ref pu), s2, s3, s4, s5, s6, s7, s8, s9, s10, s11]
  refine for_range (lo := 0) (n := (T : Int).toNat) I1 ⟨hP1, _, _, _, _, _, _, _, _, _, _, rfl⟩ ?_ (fun σ H' _ => ret _)
  rintro i σ H2 hi ⟨hP2, s2, s3, s4, s5, s6, s7, s8, s9, s10, s11, rfl⟩
  dsimp only [gName]
  refine ⟨_, rfl, pu, g, 13, rfl, hP2, by lia, by lia, fun k0 H3 hk0 hP3 sx3 => ?_⟩
  refine ⟨(k0 : Int), rfl, by lia, by lia, ?_⟩
  refine comp_any seqs_range (fun k acc H' => Pu H' pu g ∧ ∃ ms : List Nat, acc = ms.map Vn ∧ ms.length = k ∧ ∀ n ∈ ms, n ≤ 10 ^ 9) ⟨hP3, [], rfl, rfl, fun n h => absurd h List.not_mem_nil⟩ (fun _ _ _ _ _ => trivial) ?_ ?_ ?_
  · rintro k acc H' hk ⟨_, ms, rfl, hl, _⟩
    rw [List.length_map]; exact small1000 (by lia)
  · rintro k acc x H' H'' hk ⟨hP', ms, rfl, hl, hm⟩ ⟨rfl, rfl⟩
    refine ⟨_, rfl, pu, g, rfl, hP', fun n H5 hn hP5 sx5 => ⟨hP5, ms ++ [n], by rw [List.map_append]; rfl, by rw [List.length_append, hl]; rfl, fun y hy => ?_⟩⟩
    rcases List.mem_append.mp hy with h | h
    · exact hm y h
    · rw [List.mem_singleton.mp h]; exact hn
  rw [Int.toNat_natCast]
  rintro acc H4 ⟨hP4, ms, rfl, hml, hmn⟩ D hD
  have t1 := same_new hD (.lst (ms.map Vn))
  refine ⟨D, _, rfl, .inl ⟨SqL.of upd_same, fun rw' hrw => ?_⟩⟩
  have t2 := t1.trans (same_new hrw (.tup (ms.map Vn)))
  have hP5 := (hP4.same t1).same (same_new hrw (.tup (ms.map Vn)))
  have nrw := (hP4.same t1).lt hrw
  have erw : upd (upd H4 D (.lst (ms.map Vn))) rw' (.tup (ms.map Vn)) rw' = some (.tup (ms.map Vn)) := upd_same
  generalize upd (upd H4 D (.lst (ms.map Vn))) rw' (.tup (ms.map Vn)) = H5 at t2 hP5 erw ⊢
  dsimp only [gName]
  let I2 : St → Hp → Prop := fun σ H' => Ex2 fun (rw : Addr) (ms : List Nat) => An6 (Pu H' pu g) (H' rw = some (.tup (ms.map Vn))) (rw ≠ pu ∧ rw ≠ g) (ms.length ≤ 108) (∀ n ∈ ms, n ≤ 10 ^ 9) (σ = [some (.ref a), some (.ref pu), some (.int (0 + (i : Int))), some (.ref rw), s4, s5, s6, s7, s8, s9, s10, s11])
  refine seq_cut I2 ?_ ?_
  · rintro σ H6 ⟨rw, ms, hP6, erw, nrw, hml, hmn, rfl⟩
    refine ⟨_, rfl, szl 2, fun l1 hl1 => ?_⟩
    have x1 := same_new hl1 (.lst [V.int 15, V.int 63])
    have nl1 := hP6.lt hl1
    refine ⟨_, rfl, pu, g, 8, rfl, hP6.same x1, by lia, by lia, fun k1 H7 hk1 hP7 sx7 => ?_⟩
    refine ⟨rfl, .inr ⟨_, rfl, ?_⟩⟩
    obtain ⟨most, hmost, hm63, em⟩ : ∃ most : Nat, 1 ≤ most ∧ most ≤ 63 ∧ atI [V.int 15, V.int 63] (if decide (Vn k1 = V.int 7) = true then 1 else 0) = some (Vn most) := by
      split
      · exact ⟨63, by decide, by decide, rfl⟩
      · exact ⟨15, by decide, by decide, rfl⟩
    refine ⟨l1, _, _, Vn most, rfl, rfl, SqL.of (sx7 _ _ nl1.1 nl1.2 upd_same), em, ?_⟩
    refine ⟨pu, g, most, rfl, hP7, hmost, fun r tb fa pa la wh mk p m t b few root n marks H8 er T ap hW nwh nmk nr W hn hP8 sx8 => ?_⟩
    refine ⟨r, _, rfl, SqT.of er, rfl, _, _, rfl, _, _, rfl, rfl, ?_⟩
    have erw8 := sx8 _ _ nrw.1 nrw.2 (sx7 _ _ nrw.1 nrw.2 (x1 _ _ erw))
    have G := T.good
    have hp := G.hp
    have hm := G.hm
    have hQ := G.hq
    have hp2 := p_le hp hm hQ
    have hm6 := m_le hp hQ
    have hfm : few ≤ m := Nat.le_of_dvd (by lia) (Nat.dvd_of_mod_eq_zero W.fewm)
    have hrq := W.rq
    have hlen := nodup_lenM n marks (W.asc.imp fun h => Nat.ne_of_lt h) W.lt
    have hmk : ∀ x ∈ marks, x ≤ 10 ^ 9 := fun x hx => by have := W.lt x hx; lia
    have l3 : ∀ n ∈ [p, m, t], n ≤ 10 ^ 9 := fun n h => by
      simp only [List.mem_cons, List.not_mem_nil, or_false] at h
      rcases h with rfl | rfl | rfl
      · lia
      · lia
      · have := G.top; lia
    dsimp only [gName]
    refine ⟨_, rfl, wh, _, rfl, SqT.of hW.w, rfl, _, _, rfl, _, _, rfl, _, _, rfl, _, _, rfl, rfl, ?_⟩
    dsimp only [gName]
    refine ⟨rfl, _, rfl, fa, [p, m, t], rfl, SqT.of T.f, show 3 ≤ 200 by decide, l3, fun H9 y9 => ?_⟩
    refine ⟨_, rfl, _, numT few, rfl, .inl ⟨few, rfl, log_small (by lia), rfl⟩, ?_⟩
    refine ⟨_, rfl, _, numT root, rfl, .inl ⟨root, rfl, log_small (by lia), rfl⟩, ?_⟩
    refine ⟨_, rfl, mk, marks, rfl, SqT.of (y9 _ _ hW.k), by lia, hmk, fun H10 y10 => ?_⟩
    refine ⟨szl 4, fun D hD => ?_⟩
    refine ⟨stroke, D, [rowT [p, m, t], numT few, numT root, rowT marks], rfl, rfl, SqL.of upd_same, joinOk_of (B := 2200) (fun y hy => ?_) (show 4 * (2200 + 1) ≤ 2 ^ 20 by decide), ?_⟩
    · simp only [List.mem_cons, List.not_mem_nil, or_false] at hy
      rcases hy with rfl | rfl | rfl | rfl
      · exact rowT_len (show 3 ≤ 200 by decide) l3
      · exact Nat.le_trans (numT_len (by lia)) (by decide)
      · exact Nat.le_trans (numT_len (by lia)) (by decide)
      · exact rowT_len (by lia) hmk
    rw [show Txt.join stroke [rowT [p, m, t], numT few, numT root, rowT marks] = whT p m t few root marks from StrLaws.glued_eq_join _ _]
    have y11 := (y9.trans y10).trans (same_new hD (.lst ([rowT [p, m, t], numT few, numT root, rowT marks].map V.str)))
    have hPA := hP8.same y11
    have hW11 := hW.same y11
    have T11 := T.same y11
    have erw11 := y11 _ _ erw8
    change tSeq _ _ _ _ (upd H10 D (.lst ([rowT [p, m, t], numT few, numT root, rowT marks].map V.str)))
    generalize upd H10 D (.lst ([rowT [p, m, t], numT few, numT root, rowT marks].map V.str)) = HA at hPA hW11 T11 erw11 ⊢
    refine ⟨2, rfl, by decide, by decide, ?_⟩
    let I3 : Nat → St → Hp → Prop := fun _ σ H' => Same HA H' ∧ ∃ v11, σ = [some (.ref a), some (.ref pu), some (.int (0 + (i : Int))), some (.ref rw), some (.ref tb), some (.ref wh), some (.ref fa), some (Vn few), some (Vn root), some (.ref mk), some (.str (whT p m t few root marks)), v11]
    refine for_range (lo := 0) (n := 2) I3 ⟨Same.refl _, _, rfl⟩ ?_ ?_
    · rintro e σ HB he ⟨yB, v11, rfl⟩
      dsimp only [gName]
      have no : ∀ {v : V}, ¬ (!decide (v = v)) = true := fun {v} h => by rw [decide_eq_true rfl] at h; cases h
      have dr : DkA (rowD ms) 40000 40 := (dk_row (by lia) hmn).mono (by decide) (by decide)
      have df : DkA (rowD [p, m, t]) 40000 40 := (dk_row (ns := [p, m, t]) (show 3 ≤ 200 by decide) l3).mono (by decide) (by decide)
      have ht := G.top
      have dw : DkA (whD p m t few root marks) 40000 40 := (dk_wh (by lia) (by lia) (by lia) (by lia) (by lia) (by lia) hmk).mono (by decide) (by decide)
      refine ⟨_, rfl, rw, ms, rfl, SqT.of (yB _ _ erw11), by lia, hmn, fun H1 z1 => ?_⟩
      have z1 := yB.trans z1
      refine ⟨_, rfl, rw, ms, rfl, SqT.of (z1 _ _ erw11), by lia, hmn, fun H2 z2 => ⟨rfl, _, rfl, ?_⟩⟩
      refine ite2 (fun c => absurd c no) (fun _ => ?_)
      have z2 := z1.trans z2
      refine ⟨_, rfl, rw, ms, rfl, SqT.of (z2 _ _ erw11), by lia, hmn, fun H3 z3 => ⟨ms, rfl, by lia, hmn, fun r1 H4 z4 nr1 er1 => ?_⟩⟩
      have z4 := (z2.trans z3).trans z4
      have q0 : RdN K H4 10 (.ref r1) (rowD ms) := rd_ints (k := 8) (SqT.of er1)
      have u0 : RdN K H4 10 (.ref rw) (rowD ms) := rd_ints (k := 8) (SqT.of (z4 _ _ erw11))
      refine ⟨_, _, _, rfl, .inl ⟨(q0).rdL, (q0).nd⟩, dr.sh, Nat.le_trans dr.dp (by decide), dr.len, ?_⟩
      refine ⟨_, rfl, _, _, _, rfl, .inl ⟨(u0).rdL, (u0).nd⟩, dr.sh, Nat.le_trans dr.dp (by decide), dr.len, rfl, _, rfl, ?_⟩
      refine ite2 (fun c => absurd c no) (fun _ => ?_)
      dsimp only [tNext]
      refine ⟨_, rfl, fa, [p, m, t], rfl, SqT.of (z4 _ _ T11.f), show 3 ≤ 200 by decide, l3, fun H5 z5 => ?_⟩
      have z5 := z4.trans z5
      refine ⟨_, rfl, fa, [p, m, t], rfl, SqT.of (z5 _ _ T11.f), show 3 ≤ 200 by decide, l3, fun H6 z6 => ⟨rfl, _, rfl, ?_⟩⟩
      refine ite2 (fun c => absurd c no) (fun _ => ?_)
      have z6 := z5.trans z6
      refine ⟨_, rfl, fa, [p, m, t], rfl, SqT.of (z6 _ _ T11.f), show 3 ≤ 200 by decide, l3, fun H7 z7 => ⟨p, m, t, rfl, G, ht, fun r2 H8 z8 nr2 er2 => ?_⟩⟩
      have z8 := (z6.trans z7).trans z8
      have q1 : RdN K H8 10 (.ref r2) (rowD [p, m, t]) := rd_ints (k := 8) (ns := [p, m, t]) (SqT.of er2)
      have u1 : RdN K H8 10 (.ref fa) (rowD [p, m, t]) := rd_ints (k := 8) (ns := [p, m, t]) (SqT.of (z8 _ _ T11.f))
      refine ⟨_, _, _, rfl, .inl ⟨(q1).rdL, (q1).nd⟩, df.sh, Nat.le_trans df.dp (by decide), df.len, ?_⟩
      refine ⟨_, rfl, _, _, _, rfl, .inl ⟨(u1).rdL, (u1).nd⟩, df.sh, Nat.le_trans df.dp (by decide), df.len, rfl, _, rfl, ?_⟩
      refine ite2 (fun c => absurd c no) (fun _ => ?_)
      dsimp only [tNext]
      refine ⟨_, rfl, wh, fa, mk, p, m, t, few, root, marks, rfl, hW11.same z8, SqT.of (z8 _ _ T11.f), by lia, by lia, by lia, by lia, by lia, by lia, hmk, fun H9 z9 => ⟨_, rfl, rfl, _, rfl, ?_⟩⟩
      refine ite2 (fun c => absurd c no) (fun _ => ?_)
      have z9 := z8.trans z9
      refine ⟨_, rfl, p, m, t, few, root, n, marks, rfl, G, ht, W, by lia, fun r3 fa3 mk3 H10 z10 er3 ef3 em3 => ?_⟩
      have z10 := z9.trans z10
      have q2 : RdN K H10 10 (.ref r3) (whD p m t few root marks) := rd_wheel (SqT.of er3) (SqT.of ef3) (SqT.of em3)
      have u2 : RdN K H10 10 (.ref wh) (whD p m t few root marks) := rd_wheel (SqT.of (hW11.same z10).w) (SqT.of (z10 _ _ T11.f)) (SqT.of (hW11.same z10).k)
      refine ⟨.ref r3, whD p m t few root marks, 10, rfl, .inl ⟨q2.rdL, q2.nd⟩, dw.sh, Nat.le_trans dw.dp (by decide), dw.len, ?_⟩
      obtain ⟨zt, hzt⟩ : ∃ zt, zt = (whD p m t few root marks).shown := ⟨_, rfl⟩
      rw [← hzt]
      refine ⟨_, rfl, .ref wh, whD p m t few root marks, 10, rfl, .inl ⟨u2.rdL, u2.nd⟩, dw.sh, Nat.le_trans dw.dp (by decide), dw.len, ?_⟩
      rw [← hzt]
      refine ⟨rfl, _, rfl, ?_⟩
      refine ite2 (fun c => absurd c no) (fun _ => ?_)
      exact ⟨z10, _, rfl⟩
    · rintro σ HB ⟨yB, v11, rfl⟩
      exact ⟨hPA.same yB, _, _, _, _, _, _, _, _, _, _, rfl⟩
  · intro D' _ _ _ hD'
    refine ⟨_, rfl, szl 4, fun l hl => ?_⟩
    have x1 := same_new hl (.lst [V.int 1, V.int 1, V.int 1, V.int 9])
    have nl := hP5.lt hl
    refine ⟨_, rfl, pu, g, 4, rfl, hP5.same x1, by lia, by lia, fun k1 H6 hk1 hP6 sx6 => ?_⟩
    obtain ⟨kk, hkk, ev⟩ : ∃ kk : Int, (kk = 1 ∨ kk = 9) ∧ atI [V.int 1, V.int 1, V.int 1, V.int 9] (k1 : Int) = some (.int kk) := by
      rcases k1 with _ | _ | _ | _ | k1
      · exact ⟨1, .inl rfl, rfl⟩
      · exact ⟨1, .inl rfl, rfl⟩
      · exact ⟨1, .inl rfl, rfl⟩
      · exact ⟨9, .inr rfl, rfl⟩
      · lia
    have erw6 := sx6 _ _ nrw.1 nrw.2 (x1 _ _ erw)
    refine ⟨l, _, _, .int kk, rfl, rfl, SqL.of (sx6 _ _ nl.1 nl.2 upd_same), ev, ?_⟩
    have hz := sizeLine_eq
    refine ⟨rw', kk, ms.map Vn, rfl, rfl, SqT.of erw6, hkk, by rw [List.length_map]; rcases hkk with rfl | rfl <;> simp <;> lia, fun p e => ?_, fun p hp => ?_⟩
    · obtain ⟨_, rfl⟩ := e
      exact hD' _ _ ⟨p, ms, hP6, erw6, nrw, by lia, hmn, rfl⟩
    · have y1 := same_new hp (.tup (List.replicate kk.toNat (ms.map Vn)).flatten)
      have ef : (List.replicate kk.toNat (ms.map Vn)).flatten = ((List.replicate kk.toNat ms).flatten).map Vn := by
        rw [List.map_flatten, List.map_replicate]
      refine hD' _ _ ⟨p, (List.replicate kk.toNat ms).flatten, hP6.same y1, by rw [← ef]; exact upd_same, hP6.lt hp, ?_, fun n hn => ?_, rfl⟩
      · rw [List.length_flatten, List.map_replicate, List.sum_replicate_nat]
        rcases hkk with rfl | rfl <;> simp <;> lia
      · obtain ⟨x, hx, hnx⟩ := List.mem_flatten.mp hn
        rw [List.eq_of_mem_replicate hx] at hnx
        exact hmn n hnx
end
end My

end
section
set_option Elab.async false
set_option linter.all false
set_option maxRecDepth 100000
set_option maxHeartbeats 4000000
namespace My
open PySem L2 Dg
theorem law_asks {K : PySem.W.Frag} {H : Hp} {a : Addr} {ns : List Int} {E : XK} (hl : ns.length ≤ 63) (hS : SqL K H a (ns.map V.int)) : sp_law K [.ref a] H (fun v _ => v = .bl true) E := ⟨a, ns, rfl, hS, fun _ => rfl⟩
theorem DI.mk {K : PySem.W.Frag} {x : Str} {st : Stmt} {f : Addr} {oc : Value} {od an : Option Addr} {osl : Array (Option Value)} {kV doc pm cdv ct : Value} (a : PySem.W.nsIn K mainGlobals x = some (some (.ref f))) (l : K.lookup f = some ⟨oc, od, .func (PySem.W.fnOf x x (defArgs st) (defBody st) (defScope st) .none kV doc pm an cdv ct), osl⟩) (c : PySem.W.codeIn K cdv x = true) (k : PySem.W.keepIn K (.ref f) = true) : DI K f x st := ⟨_, fun_mk (st := st) l c k, a⟩
theorem DI.has {P : Program} {w : World} {K : PySem.W.Frag} {mg : Str → Option Value} {base h : Heap} {f : Addr} {x : Str} {st : Stmt} {n : Nat} {ps : List Str} {sp : Sp} (X : K.In h) (G : h.Ns mainGlobals mg) (q : DI K f x st) (ok : ∀ fd, Fun K x x st f fd → FnOk P w K mg base CX0 n f fd ps sp) (b : ∀ (kV doc pm : Value) (an : Option Addr) (cdv ct : Value) (us : List Value), us.length = ps.length → bindArgs (PySem.W.fnOf x x (defArgs st) (defBody st) (defScope st) .none kV doc pm an cdv ct) ⟨us, []⟩ = pure (ps.zip us)) : Has P w K mg base n x ps sp := by
  obtain ⟨fd, F, a⟩ := q
  exact ⟨f, fd, ok fd F, F.binds b, F.2, PySem.W.mg_of X G a⟩
theorem bl0 {P : List Value → Prop} (h : P []) : ∀ us : List Value, us.length = 0 → P us := by intro us e; cases us with | nil => exact h | cons a us => cases e
theorem blS {n : Nat} {P : List Value → Prop} (h : ∀ a, ∀ us : List Value, us.length = n → P (a :: us)) : ∀ us : List Value, us.length = n + 1 → P us := by intro us e; cases us with | nil => cases e | cons a us => exact h a us (Nat.succ.inj e)
theorem blen1 {P : List Value → Prop} (h : ∀ a0, P [a0]) : ∀ us : List Value, us.length = 1 → P us := blS fun a0 => bl0 (h a0)
theorem blen2 {P : List Value → Prop} (h : ∀ a0 a1, P [a0, a1]) : ∀ us : List Value, us.length = 2 → P us := blS fun a0 => blS fun a1 => bl0 (h a0 a1)
theorem blen3 {P : List Value → Prop} (h : ∀ a0 a1 a2, P [a0, a1, a2]) : ∀ us : List Value, us.length = 3 → P us := blS fun a0 => blS fun a1 => blS fun a2 => bl0 (h a0 a1 a2)
theorem all_mk0 : GG K := by
  intro l w h mg fa X G hfa f1 q1 f2 q2 f3 q3 f4 q4 f5 q5 f6 q6 f7 q7 f8 q8 f9 q9 f10 q10 f11 q11 f12 q12 f13 q13 f14 q14 f15 q15 f16 q16 f17 q17 f18 q18 f19 q19 f20 q20 f21 q21 f22 q22 f23 q23 f24 q24 f25 q25 f26 q26 f27 q27 f28 q28 f29 q29 f30 q30 f31 q31 f32 q32 f33 q33 f34 q34 f35 q35 f36 q36 f37 q37 f38 q38 f39 q39 f40 q40 f41 q41 tk_GROUP kk_GROUP tk_MOST_THINGS kk_MOST_THINGS tk_FIGURES kk_FIGURES tk_MOST kk_MOST tk_MOST_FIGURES kk_MOST_FIGURES z1 z2 z3 z4 z5 z6 z7 z8 z9 z10 z11 z12 z13 z14 z15 z16 z17 z18 z19 z20 z21
  obtain ⟨_, ⟨⟨oc, od, kV, dc, pm, an, cd, ct, sl, rfl, lL, cL⟩, kL⟩, aL⟩ := q41
  have e := hfa.symm.trans (PySem.W.mg_of X G aL)
  cases e
  have F41 := fun_mk (st := s_law) lL cL kL
  have B : Bl mg := List.forall_mem_cons.mpr ⟨PySem.W.mg_none_of X G z1, List.forall_mem_cons.mpr ⟨PySem.W.mg_none_of X G z2, List.forall_mem_cons.mpr ⟨PySem.W.mg_none_of X G z3, List.forall_mem_cons.mpr ⟨PySem.W.mg_none_of X G z4, List.forall_mem_cons.mpr ⟨PySem.W.mg_none_of X G z5, List.forall_mem_cons.mpr ⟨PySem.W.mg_none_of X G z6, List.forall_mem_cons.mpr ⟨PySem.W.mg_none_of X G z7, List.forall_mem_cons.mpr ⟨PySem.W.mg_none_of X G z8, List.forall_mem_cons.mpr ⟨PySem.W.mg_none_of X G z9, List.forall_mem_cons.mpr ⟨PySem.W.mg_none_of X G z10, List.forall_mem_cons.mpr ⟨PySem.W.mg_none_of X G z11, List.forall_mem_cons.mpr ⟨PySem.W.mg_none_of X G z12, List.forall_mem_cons.mpr ⟨PySem.W.mg_none_of X G z13, List.forall_mem_cons.mpr ⟨PySem.W.mg_none_of X G z14, List.forall_mem_cons.mpr ⟨PySem.W.mg_none_of X G z15, List.forall_mem_cons.mpr ⟨PySem.W.mg_none_of X G z16, List.forall_mem_cons.mpr ⟨PySem.W.mg_none_of X G z17, List.forall_mem_cons.mpr ⟨PySem.W.mg_none_of X G z18, List.forall_mem_cons.mpr ⟨PySem.W.mg_none_of X G z19, List.forall_mem_cons.mpr ⟨PySem.W.mg_none_of X G z20, List.forall_mem_cons.mpr ⟨PySem.W.mg_none_of X G z21, (fun _ h => nomatch h)⟩⟩⟩⟩⟩⟩⟩⟩⟩⟩⟩⟩⟩⟩⟩⟩⟩⟩⟩⟩⟩
  have m_GROUP := PySem.W.mg_of X G kk_GROUP
  have m_MOST_THINGS := PySem.W.mg_of X G kk_MOST_THINGS
  have m_FIGURES := PySem.W.mg_of X G kk_FIGURES
  have m_MOST := PySem.W.mg_of X G kk_MOST
  have m_MOST_FIGURES := PySem.W.mg_of X G kk_MOST_FIGURES
  refine ⟨PySem.W.fnOf "law" "law" (defArgs s_law) (defBody s_law) (defScope s_law) .none kV dc pm an cd ct, fun s v => .of_eq rfl, fun base _ _ => ?_⟩
  have M := fun {f x st n ps sp} => @DI.has l.prog w K mg base h f x st n ps sp X G
  have h_show_number := M q1 (fun _ F => ok_shownum m_GROUP B  F) (fun _ _ _ _ _ _ => blen1 fun _ => rfl)
  have h_show_numbers := M q2 (fun _ F => ok_shownums B h_show_number F) (fun _ _ _ _ _ _ => blen1 fun _ => rfl)
  have h_show_field := M q3 (fun _ F => ok_showfield B h_show_numbers F) (fun _ _ _ _ _ _ => blen1 fun _ => rfl)
  have h_show_wheel := M q4 (fun _ F => ok_showwheel B h_show_number h_show_numbers h_show_field F) (fun _ _ _ _ _ _ => blen1 fun _ => rfl)
  have h_is_whole := M q5 (fun _ F => ok_isw1 B  F) (fun _ _ _ _ _ _ => blen1 fun _ => rfl)
  have h_is_wholes := M q6 (fun _ F => ok_isws B h_is_whole F) (fun _ _ _ _ _ _ => blen2 fun _ _ => rfl)
  have h_number_power := M q7 (fun _ F => ok_number_power B  F) (fun _ _ _ _ _ _ => blen2 fun _ _ => rfl)
  have h_is_prime := M q8 (fun _ F => ok_isprime B  F) (fun _ _ _ _ _ _ => blen1 fun _ => rfl)
  have h_many_things := M q9 (fun _ F => ok_many B h_number_power F) (fun _ _ _ _ _ _ => blen1 fun _ => rfl)
  have h_plus := M q10 (fun _ F => ok_plus B  F) (fun _ _ _ _ _ _ => blen3 fun _ _ _ => rfl)
  have h_digit_times := M q11 (fun _ F => ok_digit_times B  F) (fun _ _ _ _ _ _ => blen3 fun _ _ _ => rfl)
  have h_lifted := M q12 (fun _ F => ok_lifted B h_plus h_digit_times h_number_power F) (fun _ _ _ _ _ _ => blen2 fun _ _ => rfl)
  have h_times := M q13 (fun _ F => ok_times B h_plus h_digit_times h_lifted F) (fun _ _ _ _ _ _ => blen3 fun _ _ _ => rfl)
  have h_times_itself := M q14 (fun _ F => ok_itself B h_times F) (fun _ _ _ _ _ _ => blen3 fun _ _ _ => rfl)
  have h_round_of := M q15 (fun _ F => ok_round B h_times F) (fun _ _ _ _ _ _ => blen2 fun _ _ => rfl)
  have h_all_come_to_one := M q16 (fun _ F => ok_allone B h_many_things h_times_itself F) (fun _ _ _ _ _ _ => blen1 fun _ => rfl)
  have h_is_field := M q17 (fun _ F => ok_isfield m_MOST_THINGS B h_is_wholes h_is_prime h_many_things h_all_come_to_one F) (fun _ _ _ _ _ _ => blen1 fun _ => rfl)
  have h_length := M q18 (fun _ F => ok_length B h_round_of F) (fun _ _ _ _ _ _ => blen1 fun _ => rfl)
  have h_is_rising := M q19 (fun _ F => ok_isrising B h_is_whole F) (fun _ _ _ _ _ _ => blen2 fun _ _ => rfl)
  have h_is_wheel := M q20 (fun _ F => ok_iswheel B h_is_field h_is_whole h_many_things h_length h_number_power h_is_rising F) (fun _ _ _ _ _ _ => blen1 fun _ => rfl)
  have h_is_figures := M q21 (fun _ F => ok_isfig m_MOST_FIGURES m_FIGURES B  F) (fun _ _ _ _ _ _ => blen1 fun _ => rfl)
  have h_read_number := M q22 (fun _ F => ok_readnum m_MOST B h_is_figures F) (fun _ _ _ _ _ _ => blen1 fun _ => rfl)
  have h_read_numbers := M q23 (fun _ F => ok_readnums B h_read_number F) (fun _ _ _ _ _ _ => blen1 fun _ => rfl)
  have h_read_field := M q24 (fun _ F => ok_readfield B h_read_numbers h_is_field F) (fun _ _ _ _ _ _ => blen1 fun _ => rfl)
  have h_read_wheel := M q25 (fun _ F => ok_readwheel B h_read_number h_read_numbers h_read_field h_is_wheel F) (fun _ _ _ _ _ _ => blen1 fun _ => rfl)
  have h__law_purse := M q26 (fun _ F => ok_purse B  F) (fun _ _ _ _ _ _ => blen1 fun _ => rfl)
  have h__law_pick := M q27 (fun _ F => ok_pick B  F) (fun _ _ _ _ _ _ => blen2 fun _ _ => rfl)
  have h__law_raised := M q28 (fun _ F => ok_raised B  F) (fun _ _ _ _ _ _ => blen2 fun _ _ => rfl)
  have h__law_digits := M q29 (fun _ F => ok_digits B  F) (fun _ _ _ _ _ _ => blen2 fun _ _ => rfl)
  have h__law_number := M q30 (fun _ F => ok_number B  F) (fun _ _ _ _ _ _ => blen2 fun _ _ => rfl)
  have h__law_product := M q31 (fun _ F => ok_product B h__law_digits h__law_number F) (fun _ _ _ _ _ _ => blen3 fun _ _ _ => rfl)
  have h__law_is_good := M q32 (fun _ F => ok_good B h__law_raised h__law_product F) (fun _ _ _ _ _ _ => blen1 fun _ => rfl)
  have h__law_field := M q33 (fun _ F => ok_field B h__law_pick h__law_raised h__law_is_good F) (fun _ _ _ _ _ _ => blen1 fun _ => rfl)
  have h__law_table := M q34 (fun _ F => ok_table B h__law_raised h__law_product F) (fun _ _ _ _ _ _ => blen1 fun _ => rfl)
  have h__law_times := M q35 (fun _ F => ok_ltimes B  F) (fun _ _ _ _ _ _ => blen3 fun _ _ _ => rfl)
  have h__law_round := M q36 (fun _ F => ok_lround B h__law_times F) (fun _ _ _ _ _ _ => blen2 fun _ _ => rfl)
  have h__law_ring := M q37 (fun _ F => ok_lring B  F) (fun _ _ _ _ _ _ => blen3 fun _ _ _ => rfl)
  have h__law_wheel := M q38 (fun _ F => ok_lwheel B h__law_pick h__law_field h__law_table h__law_raised h__law_round h__law_ring F) (fun _ _ _ _ _ _ => blen2 fun _ _ => rfl)
  have h__law_points := M q39 (fun _ F => ok_lpoints B  F) (fun _ _ _ _ _ _ => blen1 fun _ => rfl)
  have h__law_some_number := M q40 (fun _ F => ok_lsomenum B h__law_pick F) (fun _ _ _ _ _ _ => blen1 fun _ => rfl)
  exact ok_law (P := l.prog) (w := w) (base := base) B h__law_purse h__law_pick h__law_some_number h__law_wheel h__law_points h_show_numbers h_show_field h_show_wheel h_read_numbers h_read_field h_read_wheel F41
theorem all_mk (K : PySem.W.Frag) : GG K := K_of all_mk0 K
theorem walk {l : PySem.W.OpenLaw} {q : Program} {loose : List Str} {XP : (Str → Option Value) → Heap → Prop} {YP : World → Heap → Prop} {d : DefRec} {K : Params → PySem.W.Frag} (hn : l.most = some 63) (hdf : d.params.defaults = [])
    (hY : ∀ (w : World) (h : Heap), YP w h → (K w.params).In h)
    (F : ∀ (w : World) (mg : Str → Option Value) (fa : Addr) (h : Heap), (K w.params).In h → h.Ns mainGlobals mg → mg d.name = some (.ref fa) →
      ∃ fd : FuncData, (∀ (s : Shared) (u : Value), BindsTo s fd ⟨[u], []⟩ [("_law_script", u)]) ∧ ∀ base : Heap, (K w.params).In base → base.Ns mainGlobals mg → FnOk l.prog w (K w.params) mg base CX0 9 fa fd ["_law_script"] (sp_law (K w.params))) :
    PySem.W.WalkO q loose XP YP l.row.toRowW d [] (fun f vs => PySem.call f vs) :=
  L2.walk_of (n := 63) (k := 9) (x := "_law_script") (CX := fun _ => CX0) (sp := fun w => sp_law (K w.params)) hn (by decide) hdf ⟨rfl, by decide, by decide, rfl⟩ hY F (fun _ _ a ns hl _ hS => law_asks hl hS) fun _ _ _ _ _ z => z
end My
theorem PySem.W.Fast.tw375500878423599102 : True := trivial
theorem PySem.W.Fast.tw4943214112065170582 : True := trivial
theorem PySem.W.Fast.tw7227773694073286121 : True := trivial
theorem PySem.W.Fast.tw3556052716558877100 : True := trivial
theorem PySem.W.Fast.tw13426891839948683699 : True := trivial
theorem PySem.W.Fast.tw15871513861747504999 : True := trivial
theorem PySem.W.Fast.tw10474847008380905253 : True := trivial
theorem PySem.W.Fast.tw7035232364663232476 : True := trivial
theorem PySem.W.Fast.tw17505596575805453071 : True := trivial
theorem PySem.W.Fast.tw3172234067836887167 : True := trivial
theorem PySem.W.Fast.tw1161872891911505003 : True := trivial
theorem PySem.W.Fast.tw4756630904007335498 : True := trivial
theorem PySem.W.Fast.tw7658140730815223223 : True := trivial
theorem PySem.W.Fast.tw4515503217794193632 : True := trivial
theorem PySem.W.Fast.tw12751999622356065311 : True := trivial
theorem PySem.W.Fast.tw8972486096284862339 : True := trivial
theorem PySem.W.Fast.tw5042171570967842531 : True := trivial
theorem PySem.W.Fast.tw3132988425160868731 : True := trivial
theorem PySem.W.Fast.tw4520745922716502681 : True := trivial
theorem PySem.W.Fast.tw4321703386152462230 : True := trivial
theorem PySem.W.Fast.tw7434387083802298268 : True := trivial
theorem PySem.W.Fast.tw866487377148099000 : True := trivial
theorem PySem.W.Fast.tw18231979694964910820 : True := trivial
theorem PySem.W.Fast.tw9977603928735287262 : True := trivial
theorem PySem.W.Fast.tw10007032374455852134 : True := trivial
theorem PySem.W.Fast.tw13383289967805362214 : True := trivial
theorem PySem.W.Fast.tw12539701562059615459 : True := trivial
theorem PySem.W.Fast.tw7459727030690375093 : True := trivial
theorem PySem.W.Fast.tw7870581895990413210 : True := trivial
theorem PySem.W.Fast.tw6080124168277754304 : True := trivial
theorem PySem.W.Fast.tw14243627773125218597 : True := trivial
theorem PySem.W.Fast.tw1938099174498572561 : True := trivial
theorem PySem.W.Fast.tw3151375900118977825 : True := trivial
theorem PySem.W.Fast.tw14505796012767335305 : True := trivial
theorem PySem.W.Fast.tw9952951254119463976 : True := trivial
theorem PySem.W.Fast.tw1048390688373813105 : True := trivial
theorem PySem.W.Fast.tw15877251741633184456 : True := trivial
theorem PySem.W.Fast.tw2534072385554321620 : True := trivial
theorem PySem.W.Fast.tw8564881057562516986 : True := trivial
theorem PySem.W.Fast.tw16010655122545388507 : True := trivial
theorem PySem.W.Fast.tw5927821890685388891 : True := trivial
theorem PySem.W.Fast.tw5781992458390131237 : True := trivial
theorem PySem.W.Fast.tw2308106236981971631 : True := trivial
theorem PySem.W.Fast.tw15683989600422882180 : True := trivial
theorem PySem.W.Fast.tw6925884002951240584 : True := trivial
theorem PySem.W.Fast.tw23705690248924053 : True := trivial
theorem PySem.W.Fast.tw12721576260579019730 : True := trivial
theorem PySem.W.Fast.tw9390139197428192345 : True := trivial
theorem PySem.W.Fast.tw1595840543798214495 : True := trivial
theorem PySem.W.Fast.tw2337712154160265610 : True := trivial
theorem PySem.W.Fast.tw8897373058776729980 : True := trivial
theorem PySem.W.Fast.tw2798154044458152946 : True := trivial
theorem PySem.W.Fast.tw539186052725852873 : True := trivial
theorem PySem.W.Fast.tw13328647311233186059 : True := trivial
theorem PySem.W.Fast.tw9659014172897964385 : True := trivial
theorem PySem.W.Fast.tw352441113497371944 : True := trivial
theorem PySem.W.Fast.tw7120295049330408451 : True := trivial
theorem PySem.W.Fast.tw1405243313292236808 : True := trivial
theorem PySem.W.Fast.tw76788289980403704 : True := trivial
theorem PySem.W.Fast.tw16839449919158136419 : True := trivial
theorem PySem.W.Fast.tw14045975086729033380 : True := trivial
theorem PySem.W.Fast.tw17014294775128913355 : True := trivial
theorem PySem.W.Fast.tw1388058161668956853 : True := trivial
theorem PySem.W.Fast.tw17474722317281558280 : True := trivial
theorem PySem.W.Fast.tw5823581066308095090 : True := trivial
theorem PySem.W.Fast.tw6491290302191036975 : True := trivial
theorem PySem.W.Fast.tw2182976835011938443 : True := trivial
theorem PySem.W.Fast.tw14477958039033660593 : True := trivial
theorem PySem.W.Fast.tw747835520978164481 : True := trivial
theorem PySem.W.Fast.tw6494318380497847128 : True := trivial
theorem PySem.W.Fast.tw10023264787458178071 : True := trivial
theorem PySem.W.Fast.tw7854054336562700382 : True := trivial
theorem PySem.W.Fast.tw6163111957180104637 : True := trivial
theorem PySem.W.Fast.tw17123311327768778990 : True := trivial
theorem PySem.W.Fast.tw14490830365932417844 : True := trivial
theorem PySem.W.Fast.tw9283777653681754566 : True := trivial
theorem PySem.W.Fast.tw16994244056495294385 : True := trivial
theorem PySem.W.Fast.tw7219832486106337064 : True := trivial
theorem PySem.W.Fast.tw3559380835513290921 : True := trivial
theorem PySem.W.Fast.tw13120805970290610518 : True := trivial
theorem PySem.W.Fast.tw523037884397071164 : True := trivial
theorem PySem.W.Fast.tw10359927307592362640 : True := trivial
theorem PySem.W.Fast.tw7781516246980919077 : True := trivial
theorem PySem.W.Fast.tw6194906270802361360 : True := trivial
theorem PySem.W.Fast.tw6886718335191165160 : True := trivial
theorem PySem.W.Fast.tw289285278116980101 : True := trivial
theorem PySem.W.Fast.tw4478049191719669918 : True := trivial
theorem PySem.W.Fast.tw9814735874926442329 : True := trivial
theorem PySem.W.Fast.tw15940266184631672065 : True := trivial
theorem PySem.W.Fast.tw4435004747145213714 : True := trivial
theorem PySem.W.Fast.tw8156892764720273801 : True := trivial
theorem PySem.W.Fast.tw1344968122520575715 : True := trivial
theorem PySem.W.Fast.tw6639966189113255180 : True := trivial
theorem PySem.W.Fast.tw14983869229994934929 : True := trivial
theorem PySem.W.Fast.tw3913633512984312037 : True := trivial
theorem PySem.W.Fast.tw11896998413182696537 : True := trivial
theorem PySem.W.Fast.tw2008293685634386223 : True := trivial
theorem PySem.W.Fast.tw4978866929638238487 : True := trivial
theorem PySem.W.Fast.tw2264914977584762433 : True := trivial
theorem PySem.W.Fast.tw13484647019890791753 : True := trivial
theorem PySem.W.Fast.tw6596181401740871947 : True := trivial
theorem PySem.W.Fast.tw14869412658264366757 : True := trivial
theorem PySem.W.Fast.tw13764189123384542048 : True := trivial
theorem PySem.W.Fast.tw11329159032045459048 : True := trivial
theorem PySem.W.Fast.tw8874522577863995243 : True := trivial
theorem PySem.W.Fast.tw14429911747548393724 : True := trivial
theorem PySem.W.Fast.tw493108219880568865 : True := trivial
theorem PySem.W.Fast.tw1687358316013091471 : True := trivial
theorem PySem.W.Fast.tw9393576891179470425 : True := trivial
theorem PySem.W.Fast.tw8597496315481031927 : True := trivial
theorem PySem.W.Fast.tw3491022801205130773 : True := trivial
theorem PySem.W.Fast.tw2025934228750185854 : True := trivial
theorem PySem.W.Fast.tw4416841288302632661 : True := trivial
theorem PySem.W.Fast.tw7465981465282416434 : True := trivial
theorem PySem.W.Fast.tw18215825834301104890 : True := trivial
theorem PySem.W.Fast.tw14660783749323604079 : True := trivial
theorem PySem.W.Fast.tw797322777428688381 : True := trivial
theorem PySem.W.Fast.tw14732784965539610606 : True := trivial
theorem PySem.W.Fast.tw5300338565026644628 : True := trivial
theorem PySem.W.Fast.tw9851691420720084861 : True := trivial
theorem PySem.W.Fast.tw5729611661876576649 : True := trivial
theorem PySem.W.Fast.tw3929354735623401418 : True := trivial
theorem PySem.W.Fast.tw4036231714456599471 : True := trivial
theorem PySem.W.Fast.tw6149274680792884778 : True := trivial
theorem PySem.W.Fast.tw294674913805847244 : True := trivial
theorem PySem.W.Fast.tw2155933500213771816 : True := trivial
theorem PySem.W.Fast.tw17768931053836563197 : True := trivial
theorem PySem.W.Fast.tw12057668357766467373 : True := trivial
theorem PySem.W.Fast.tw16066750689978982434 : True := trivial
theorem PySem.W.Fast.tw18408012802337832700 : True := trivial
theorem PySem.W.Fast.tw14438954137460213976 : True := trivial
theorem PySem.W.Fast.tw15347118621441850619 : True := trivial
theorem PySem.W.Fast.tw13787482013702477471 : True := trivial
theorem PySem.W.Fast.tw11028823158714260738 : True := trivial
theorem PySem.W.Fast.tw6513236107946505308 : True := trivial
theorem PySem.W.Fast.tw3628058572643917250 : True := trivial
theorem PySem.W.Fast.tw2669969955027093252 : True := trivial
theorem PySem.W.Fast.tw272410225292122755 : True := trivial
theorem PySem.W.Fast.tw17593907712983655039 : True := trivial
theorem PySem.W.Fast.tw12985810689046543007 : True := trivial
theorem PySem.W.Fast.tw18389600509321875213 : True := trivial
theorem PySem.W.Fast.tw16469040841007247498 : True := trivial
theorem PySem.W.Fast.tw644688730470884662 : True := trivial
theorem PySem.W.Fast.tw14782825849548113361 : True := trivial
theorem PySem.W.Fast.tw11501383518482413616 : True := trivial
theorem PySem.W.Fast.tw4034252560192538140 : True := trivial
theorem PySem.W.Fast.tw10100325068876438109 : True := trivial
theorem PySem.W.Fast.tw16695390102400501985 : True := trivial
theorem PySem.W.Fast.tw11567436648737015356 : True := trivial
theorem PySem.W.Fast.tw11857440940414472742 : True := trivial
theorem PySem.W.Fast.tw10850522201116682765 : True := trivial
theorem PySem.W.Fast.tw1993649044151813352 : True := trivial
theorem PySem.W.Fast.tw16002551440524752644 : True := trivial
theorem PySem.W.Fast.tw10394973858605688152 : True := trivial
theorem PySem.W.Fast.tw6069383839148861784 : True := trivial
theorem PySem.W.Fast.tw8676314090569880008 : True := trivial
theorem PySem.W.Fast.tw9286997089011791823 : True := trivial
theorem PySem.W.Fast.tw16142279184480801892 : True := trivial
theorem PySem.W.Fast.tw2155868039110261147 : True := trivial
theorem PySem.W.Fast.tw12877763063080516440 : True := trivial
theorem PySem.W.Fast.tw7088248564397822405 : True := trivial
theorem PySem.W.Fast.tw16722658241450194091 : True := trivial
theorem PySem.W.Fast.tw65576380576980122 : True := trivial
theorem PySem.W.Fast.tw16584527416102821929 : True := trivial
theorem PySem.W.Fast.tw1932418722765761682 : True := trivial
theorem PySem.W.Fast.tw9442260800252446319 : True := trivial
theorem PySem.W.Fast.tw10198931642042854778 : True := trivial
theorem PySem.W.Fast.tw16355602069569763480 : True := trivial
theorem PySem.W.Fast.tw7735515776226878859 : True := trivial
theorem PySem.W.Fast.tw1513871759349637174 : True := trivial
theorem PySem.W.Fast.tw14588383938022572113 : True := trivial
theorem PySem.W.Fast.tw16502741136277336268 : True := trivial
theorem PySem.W.Fast.tw1129119023268335222 : True := trivial
theorem PySem.W.Fast.tw17302362606893916496 : True := trivial
theorem PySem.W.Fast.tw127474462912941306 : True := trivial
theorem PySem.W.Fast.tw4657141264854302442 : True := trivial
theorem PySem.W.Fast.tw17101951083051326016 : True := trivial
theorem PySem.W.Fast.tw13062057125098805113 : True := trivial
theorem PySem.W.Fast.tw3740596439696268033 : True := trivial
theorem PySem.W.Fast.tw6145097304646735975 : True := trivial
theorem PySem.W.Fast.tw17975169760205230921 : True := trivial
theorem PySem.W.Fast.tw2605427001275774909 : True := trivial
theorem PySem.W.Fast.tw15153999893204139925 : True := trivial
theorem PySem.W.Fast.tw132354409230672978 : True := trivial
theorem PySem.W.Fast.tw13407331036421183200 : True := trivial
theorem PySem.W.Fast.tw18167387959486113065 : True := trivial
theorem PySem.W.Fast.tw822758676105654733 : True := trivial
theorem PySem.W.Fast.tw976994826677517175 : True := trivial
theorem PySem.W.Fast.tw13728743350950284970 : True := trivial
theorem PySem.W.Fast.tw9440702941498524817 : True := trivial
theorem PySem.W.Fast.tw15493222395944977487 : True := trivial
theorem PySem.W.Fast.tw426214274257318572 : True := trivial
theorem PySem.W.Fast.tw7404944383578327177 : True := trivial
theorem PySem.W.Fast.tw11086947178078996135 : True := trivial
theorem PySem.W.Fast.tw11243936307196518064 : True := trivial
theorem PySem.W.Fast.tw16640353408159886688 : True := trivial
theorem PySem.W.Fast.tw2192022304336050133 : True := trivial
theorem PySem.W.Fast.tw14025241314837418438 : True := trivial
theorem PySem.W.Fast.tw6774471515351514980 : True := trivial
theorem PySem.W.Fast.tw16548259224177809747 : True := trivial
theorem PySem.W.Fast.tw4606546773155765545 : True := trivial
theorem PySem.W.Fast.tw12936054154399573073 : True := trivial
theorem PySem.W.Fast.tw7362243240332016375 : True := trivial
theorem PySem.W.Fast.tw5326177634109270729 : True := trivial
theorem PySem.W.Fast.tw9328587130118903757 : True := trivial
theorem PySem.W.Fast.tw14646954756385713265 : True := trivial
theorem PySem.W.Fast.tw6496577289519950889 : True := trivial
theorem PySem.W.Fast.tw9631354772814819009 : True := trivial
theorem PySem.W.Fast.tw6000710012775364898 : True := trivial
theorem PySem.W.Fast.tw15673237499395752810 : True := trivial
theorem PySem.W.Fast.tw6785190435348419636 : True := trivial
theorem PySem.W.Fast.tw17616467336397595842 : True := trivial
theorem PySem.W.Fast.tw14891868048208800866 : True := trivial
theorem PySem.W.Fast.tw13746539969927761710 : True := trivial
theorem PySem.W.Fast.tw10086407783692318477 : True := trivial
theorem PySem.W.Fast.tw14239028673515088973 : True := trivial
theorem PySem.W.Fast.tw7206862503757452991 : True := trivial
theorem PySem.W.Fast.tw7124895367013018036 : True := trivial
theorem PySem.W.Fast.tw13115001188378989398 : True := trivial
theorem PySem.W.Fast.tw10618236543547601847 : True := trivial
theorem PySem.W.Fast.tw196436825707956422 : True := trivial
theorem PySem.W.Fast.tw12822362513812838507 : True := trivial
theorem PySem.W.Fast.tw13601480215799934520 : True := trivial
theorem PySem.W.Fast.tw3935443204773166223 : True := trivial
theorem PySem.W.Fast.tw6766551930197444881 : True := trivial
theorem PySem.W.Fast.tw3934626657712655208 : True := trivial
theorem PySem.W.Fast.tw18119828960391607823 : True := trivial
theorem PySem.W.Fast.tw7711427771585576599 : True := trivial
theorem PySem.W.Fast.tw5814615158498157205 : True := trivial
theorem PySem.W.Fast.tw16590078861118776827 : True := trivial
theorem PySem.W.Fast.tw244121571282140740 : True := trivial
theorem PySem.W.Fast.tw12852448110163756430 : True := trivial
theorem PySem.W.Fast.tw14453218872241183914 : True := trivial
theorem PySem.W.Fast.tw5463734277852871758 : True := trivial
theorem PySem.W.Fast.tw14604870664701155711 : True := trivial
theorem PySem.W.Fast.tw10013680866896542880 : True := trivial
theorem PySem.W.Fast.tw426774222988906079 : True := trivial
theorem PySem.W.Fast.tw879357095636109799 : True := trivial
theorem PySem.W.Fast.tw2739503635212011467 : True := trivial
theorem PySem.W.Fast.tw574663664249580451 : True := trivial
theorem PySem.W.Fast.tw7850952342498402430 : True := trivial
theorem PySem.W.Fast.tw12500010990483567751 : True := trivial
theorem PySem.W.Fast.tw8326381603463871885 : True := trivial
theorem PySem.W.Fast.tw1950777537756680204 : True := trivial
theorem PySem.W.Fast.tw1438810464392509525 : True := trivial
theorem PySem.W.Fast.tw11969480050055159260 : True := trivial
theorem PySem.W.Fast.tw8047385840647286866 : True := trivial
theorem PySem.W.Fast.tw7748083158587654390 : True := trivial
theorem PySem.W.Fast.tw4951083297858941377 : True := trivial
theorem PySem.W.Fast.tw6143157929077242944 : True := trivial
theorem PySem.W.Fast.tw15551450030161166888 : True := trivial
theorem PySem.W.Fast.tw7091873278971178582 : True := trivial
theorem PySem.W.Fast.tw14089935450644260822 : True := trivial
theorem PySem.W.Fast.tw2743665271049793551 : True := trivial
theorem PySem.W.Fast.tw14319121655231755012 : True := trivial
theorem PySem.W.Fast.tw8091825157780458902 : True := trivial
theorem PySem.W.Fast.tw14411738846400772815 : True := trivial
theorem PySem.W.Fast.tw2282589553070243273 : True := trivial
theorem PySem.W.Fast.tw11404725616133739503 : True := trivial
theorem PySem.W.Fast.tw8601387315874593746 : True := trivial
theorem PySem.W.Fast.tw16519520004303643542 : True := trivial
theorem PySem.W.Fast.tw13402695078111721230 : True := trivial
theorem PySem.W.Fast.tw2549893024859556082 : True := trivial
theorem PySem.W.Fast.tw9739348587901370484 : True := trivial
theorem PySem.W.Fast.tw1372375194393923636 : True := trivial
theorem PySem.W.Fast.tw11033381582259569347 : True := trivial
theorem PySem.W.Fast.tw17789136247923656980 : True := trivial
theorem PySem.W.Fast.tw12236110933478820062 : True := trivial
theorem PySem.W.Fast.tw1603158765726331885 : True := trivial
theorem PySem.W.Fast.tw11180242717887798014 : True := trivial
theorem PySem.W.Fast.tw6475161340902405367 : True := trivial
theorem PySem.W.Fast.tw3029119577274667730 : True := trivial
theorem PySem.W.Fast.tw8379685748518349072 : True := trivial
theorem PySem.W.Fast.tw1510417540633689564 : True := trivial
theorem PySem.W.Fast.tw11149661008404358314 : True := trivial
theorem PySem.W.Fast.tw6640772482078408464 : True := trivial
open PySem PySem.W PyProof.Rows
set_option maxRecDepth 100000 in
set_option maxHeartbeats 0 in
theorem PySem.Challenge.cw_roundwords_k70_written_holds : PySem.Challenge.rw_roundwords_k70_written.Holds := by
  w_on; refine holds_law wellS0 fun said => ?_; k_head; (case hw => w_witness2)
  k_fill
  refine My.walk (l := PySem.Challenge.rw_roundwords_k70_written) rfl rfl (fun w h Y => PySem.W.kIn_of Y) ?F
  case F =>
    intro w mg fa h KX G hmg
    apply My.all_mk _ KX G hmg
    all_goals first | (apply My.DI.mk <;> k_is) | k_is
#print axioms PySem.Challenge.cw_roundwords_k70_written_holds

end
