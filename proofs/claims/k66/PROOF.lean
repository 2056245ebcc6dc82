import PyProof.Rows.All
import Wide.All
import OpenK.AllK
import Wide.FinOn
import Lean
import PyProof.EqAt
import PyProof.EqKinds
import PyProof.TupleCall
import KE.KUnpack
import PyProof.ListRange
import PyProof.TupleOfGen
import PyProof.NeKinds
import KE.KRevIter
import PyProof.FactsAll.range_2
import KE.KTryMore
import PyProof.IsRules
import PyProof.IsInstanceH
import PyProof.ReprRoads
import PyProof.CallStr
import PySem.Challenge.RW_roundwords_k66_fewer_letters_told
theorem yfQ:PySem.Challenge.rw_roundwords_k66_fewer_letters_told.wellSaid=true:=by decide +kernel
section
-- text: PpList
set_option Elab.async false
set_option linter.all false
set_option maxRecDepth 100000
namespace L2
open PySem PySem.Spec PyProof.Rows
noncomputable abbrev Key := Sum Int Str
noncomputable def ydT : Key → Value → Bool
  | .inl k, v => Value.isInt k v
  | .inr x, v => Value.isStrOf x v
noncomputable def keyH (w : World) : Key → Int
  | .inl k => hashInt k
  | .inr x => hashStr w x
theorem zaw : ∀ {k : Key} {v : Value}, ydT k v = true → (∃ i t, k = Sum.inl i ∧ v = Value.int i t) ∨ (∃ x t, k = Sum.inr x ∧ v = Value.str x t)
  | .inl i, v, h => by
    obtain ⟨t, e⟩ := Value.isInt_shape (k := i) (v := v) h
    exact .inl ⟨i, t, rfl, e⟩
  | .inr x, v, h => by
    obtain ⟨t, e⟩ := Value.isStrOf_shape (x := x) (v := v) h
    exact .inr ⟨x, t, rfl, e⟩
theorem yeO (i : Int) (t : Tok) : ydT (.inl i) (.int i t) = true := by simp [ydT, Value.isInt]
theorem zeb (x : Str) (t : Tok) : ydT (.inr x) (.str x t) = true := by simp [ydT, Value.isStrOf]
theorem yfX (a b : Int) : decide ((Sum.inl a : Key) = Sum.inl b) = (a == b) := by
  by_cases e : a = b
  · subst e; simp
  · have h : ¬ (Sum.inl a : Key) = Sum.inl b := fun q => e (Sum.inl.inj q)
    rw [decide_eq_false h]
    exact (beq_eq_false_iff_ne.mpr e).symm
theorem yf3 (a b : Str) : decide ((Sum.inr a : Key) = Sum.inr b) = decide (a = b) := by
  by_cases e : a = b
  · subst e; simp
  · have h : ¬ (Sum.inr a : Key) = Sum.inr b := fun q => e (Sum.inr.inj q)
    rw [decide_eq_false h, decide_eq_false e]
theorem yfK (a : Int) (b : Str) : decide ((Sum.inl a : Key) = Sum.inr b) = false := decide_eq_false (fun q => nomatch q)
theorem zf0 (a : Str) (b : Int) : decide ((Sum.inr a : Key) = Sum.inl b) = false := decide_eq_false (fun q => nomatch q)
noncomputable def zaz (prog : Program) (w : World) : PySem.KeyKind prog w Key where
  is := ydT
  hash := keyH w
  inj := fun v a b ha hb => by
    rcases zaw ha with ⟨i, t, rfl, rfl⟩ | ⟨x, t, rfl, rfl⟩
    · rcases zaw hb with ⟨j, u, rfl, e⟩ | ⟨y, u, rfl, e⟩
      · injection e with e1 _; rw [e1]
      · exact nomatch e
    · rcases zaw hb with ⟨j, u, rfl, e⟩ | ⟨y, u, rfl, e⟩
      · exact nomatch e
      · injection e with e1 _; rw [e1]
  byValue := fun k v h => by
    rcases zaw h with ⟨i, t, rfl, rfl⟩ | ⟨x, t, rfl, rfl⟩ <;> rfl
  pyHash := fun hv h => by
    rcases zaw hv with ⟨i, t, rfl, rfl⟩ | ⟨x, t, rfl, rfl⟩
    · exact wpAny_pyHash_int h
    · exact wpAny_pyHash_str h
  eqBool := fun hu hv h => by
    rcases zaw hu with ⟨i, t, rfl, rfl⟩ | ⟨x, t, rfl, rfl⟩
    · rcases zaw hv with ⟨j, u, rfl, rfl⟩ | ⟨y, u, rfl, rfl⟩
      · rw [yfX] at h; exact wpAny_eqBool_int h
      · rw [yfK] at h; exact SeqAt.EqAt.int_str i t y u _ _ _ _ h
    · rcases zaw hv with ⟨j, u, rfl, rfl⟩ | ⟨y, u, rfl, rfl⟩
      · rw [zf0] at h; exact SeqAt.EqAt.str_int x t j u _ _ _ _ h
      · rw [yf3] at h; exact wpAny_eqBool_str h
  «strs» := fun k x t v h => by
    rcases zaw h with ⟨i, u, rfl, e⟩ | ⟨y, u, rfl, e⟩
    · exact nomatch e
    · injection e with e1 _
      subst e1
      cases v <;> rfl
theorem ydm (prog : Program) (w : World) (i : Int) (t : Tok) : (zaz prog w).is (.inl i) (.int i t) = true := yeO i t
theorem zdv (prog : Program) (w : World) (x : Str) (t : Tok) : (zaz prog w).is (.inr x) (.str x t) = true := zeb x t
end L2
namespace L2
open PySem PySem.Spec PyProof.Rows
inductive V where
  | non | bl (b : Bool) | int (i : Int) | str (x : Str) | byt (b : Array UInt8) | flt (b : UInt64) | ref (a : Addr) | ty (n : String)
  deriving DecidableEq
noncomputable def RelV : V → Value → Prop
  | .non, u => u = Value.none
  | .bl b, u => u = Value.bool b
  | .int i, u => ∃ t, u = Value.int i t
  | .str x, u => ∃ t, u = Value.str x t
  | .byt b, u => ∃ t, u = Value.bytes b t
  | .flt b, u => ∃ t, u = Value.float b t
  | .ref a, u => u = Value.ref a
  | .ty n, u => u = Value.type n
noncomputable abbrev Vals : List V → List Value → Prop := Paired RelV
theorem Vals.length {xs : List V} {us : List Value} (r : Vals xs us) : xs.length = us.length := Paired.length r
theorem Vals.get : ∀ {xs : List V} {us : List Value} {i : Nat} {x : V}, Vals xs us → xs[i]? = some x → ∃ u, us[i]? = some u ∧ RelV x u
  | _, _, _, _, .nil, e => by simp at e
  | _, _, 0, _, .cons r _, e => by simp at e; subst e; exact ⟨_, rfl, r⟩
  | _, _, i + 1, x, .cons _ t, e => by
    obtain ⟨u, h1, h2⟩ := Vals.get (i := i) (x := x) t (by simpa using e)
    exact ⟨u, by simpa using h1, h2⟩
theorem Vals.set {x : V} {u : Value} (r : RelV x u) : ∀ {xs : List V} {us : List Value} (i : Nat), Vals xs us → Vals (xs.set i x) (us.set i u)
  | _, _, _, .nil => .nil
  | _, _, 0, .cons _ t => .cons r t
  | _, _, i + 1, .cons q t => .cons q (Vals.set r i t)
theorem Vals.append : ∀ {xs ys : List V} {us ws : List Value}, Vals xs us → Vals ys ws → Vals (xs ++ ys) (us ++ ws)
  | _, _, _, _, .nil, s => s
  | _, _, _, _, .cons r t, s => .cons r (Vals.append t s)
theorem Vals.take : ∀ {xs : List V} {us : List Value} (n : Nat), Vals xs us → Vals (xs.take n) (us.take n)
  | _, _, 0, _ => .nil
  | _, _, _ + 1, .nil => .nil
  | _, _, n + 1, .cons r t => .cons r (Vals.take n t)
theorem Vals.drop : ∀ {xs : List V} {us : List Value} (n : Nat), Vals xs us → Vals (xs.drop n) (us.drop n)
  | _, _, 0, r => r
  | _, _, _ + 1, .nil => .nil
  | _, _, n + 1, .cons _ t => Vals.drop n t
noncomputable def RelO : Option V → Option Value → Prop
  | some v, some u => RelV v u
  | none, none => True
  | _, _ => False
noncomputable def KV {κ : Type} : List (κ × V) → List (κ × Value) → Prop := Paired fun (p : κ × V) (q : κ × Value) => p.1 = q.1 ∧ RelV p.2 q.2
noncomputable def kV : Key → V
  | .inl i => .int i
  | .inr x => .str x
inductive HO where
  | lst (xs : List V)
  | tup (xs : List V)
  | dK (kvs : List (Key × V)) | dT (kvs : List (List Key × V))
  | set (S : Int → Bool) (n : Nat)
  | ins (C dx : Addr) (fs : List (Str × V))
  | own (x : Addr)
  | xd (fs : List (Str × V))
  | met (f x : Addr)
  | rng (lo hi : Int)
  | frz (o : Obj) (u : HO)
  | tbl (ps : Array Value)
  | ext (φ : Heap → Prop)
noncomputable abbrev Hp := Addr → Option HO
noncomputable def upd (H : Hp) (a : Addr) (o : HO) : Hp := fun b => if b = a then some o else H b
theorem zac {H : Hp} {a : Addr} {o : HO} : upd H a o a = some o := by unfold upd; rw [if_pos rfl]
theorem zag {H : Hp} {a b : Addr} {o : HO} (h : b ≠ a) : upd H a o b = H b := by unfold upd; rw [if_neg h]
theorem zcH {H : Hp} {a : Addr} {o u : HO} : upd (upd H a o) a u = upd H a u := by
  funext b; unfold upd; split <;> rfl
theorem zaf {H : Hp} {a b : Addr} {o : HO} (h : H a = some o) (h' : H b = none) : a ≠ b := by
  intro e; subst e; rw [h] at h'; cases h'
section
variable (P : Program) (w : World)
noncomputable def ya7 (H : Hp) (h : Heap) (a : Addr) : HO → Prop
  | .lst xs => xs.length ≤ sizeLine ∧ ∃ (its : List Value) (n : Nat), Vals xs its ∧ h.get? a = some { cls := .type "list", data := .seq its.toArray n }
  | .tup xs => xs.length ≤ sizeLine ∧ ∃ its : List Value, Vals xs its ∧ IsTup h a its.toArray
  | .dK kvs => kvs.length ≤ sizeLine ∧ (a == sysModules) = false ∧ ∃ vs, KV kvs vs ∧ h.DictOf (zaz P w) a vs
  | .dT kvs => kvs.length ≤ sizeLine ∧ (a == sysModules) = false ∧ ∃ xs : List (List Key × Addr × Value),
      Paired (fun (p : List Key × V) (q : List Key × Addr × Value) => p.1 = q.1 ∧ H q.2.1 = some (.tup (p.1.map kV)) ∧ RelV p.2 q.2.2) kvs xs ∧
      ∃ o es ep, h.get? a = some o ∧ o.ExactDict ∧ o.data = .dict es ep ∧ es.toList = xs.map (entryOfKey (tupleKind (zaz P w))) ∧ (xs.map (·.1)).Nodup
  | .set S n => h.SetOf (intKind P w) a S n
  | .ins C dx fs => H dx = some (.own a) ∧ fs.length ≤ 1000 ∧ dx ≠ a ∧ h.get? a = some (PySem.W.instObj C dx) ∧
      ∃ mA, h.Ns1 dx mA ∧ (∀ f, RelO (fs.lookup f) (mA f)) ∧ PySem.Within mA (fs.map (·.1))
  | .own _ => ∃ o, h.get? a = some o
  | .xd fs => ∃ mA, h.Ns1 a mA ∧ ∀ f, RelO (fs.lookup f) (mA f)
  | .rng lo hi => ∃ t u v, h.get? a = some { cls := .type "range", data := .fields #[.int lo t, .int hi u, .int 1 v] }
  | .frz o u => h.get? a = some o ∧ ya7 H h a u
  | .tbl ps => h.get? a = some { cls := .none, data := .fields ps }
  | .met f x => h.get? a = some (PySem.W.methodObj (.ref f) (.ref x))
  | .ext φ => φ h ∧ (∃ o, h.get? a = some o) ∧ ∀ h1 h2 : Heap, φ h1 → (∀ o, h1.get? a = some o → h2.get? a = some o) → φ h2
noncomputable def HOk (H : Hp) (h : Heap) : Prop := ∀ a o, H a = some o → ya7 P w H h a o
end
section
variable {P : Program} {w : World} {H H' : Hp} {h h' : Heap} {a : Addr} {o : HO}
theorem ya7.lt (x : ya7 P w H h a o) : a < h.objs.size := by
  cases o with
  | lst xs => obtain ⟨_, _, _, _, e⟩ := x; exact Heap.lt_size e
  | tup xs => obtain ⟨_, _, _, p⟩ := x; exact p.lt
  | dK kvs => obtain ⟨_, _, _, _, o, _, _, e, _⟩ := x; exact Heap.lt_size e
  | dT kvs => obtain ⟨_, _, _, _, o, _, _, e, _⟩ := x; exact Heap.lt_size e
  | set S n => obtain ⟨o, _, _, _, e, _⟩ := x; exact Heap.lt_size e
  | ins C dx fs => obtain ⟨_, _, _, e, _⟩ := x; exact Heap.lt_size e
  | own y => obtain ⟨_, e⟩ := x; exact Heap.lt_size e
  | xd fs => obtain ⟨_, ⟨_, _, _, e, _⟩, _⟩ := x; exact Heap.lt_size e
  | rng lo hi => obtain ⟨_, _, _, e⟩ := x; exact Heap.lt_size e
  | frz ob u => obtain ⟨e, _⟩ := x; exact Heap.lt_size e
  | tbl ps => exact Heap.lt_size (show h.get? a = some _ from x)
  | met f y => exact Heap.lt_size (show h.get? a = some _ from x)
  | ext φ => obtain ⟨_, ⟨_, e⟩, _⟩ := x; exact Heap.lt_size e
theorem Paired.mapP {α β : Type} {F G : α → β → Prop} : ∀ {l₁ : List α} {l₂ : List β}, Paired F l₁ l₂ → (∀ a b, F a b → G a b) → Paired G l₁ l₂
  | _, _, .nil, _ => .nil
  | _, _, .cons r t, f => .cons (f _ _ r) (Paired.mapP t f)
theorem ya7.stay (x : ya7 P w H h a o) (k : ∀ b u, (b = a ∨ H b = some (.own a)) → h.get? b = some u → h'.get? b = some u)
    (ho : ∀ b, H b = some (.own a) → H' b = some (.own a)) (ht : ∀ b xs, H b = some (.tup xs) → H' b = some (.tup xs)) : ya7 P w H' h' a o := by
  induction o with
  | lst xs => obtain ⟨z, its, n, r, e⟩ := x; exact ⟨z, its, n, r, k _ _ (.inl rfl) e⟩
  | tup xs => obtain ⟨z, its, r, ob, e, c⟩ := x; exact ⟨z, its, r, ob, k _ _ (.inl rfl) e, c⟩
  | dK kvs => obtain ⟨z, y, vs, r, ob, es, ep, e, c⟩ := x; exact ⟨z, y, vs, r, ob, es, ep, k _ _ (.inl rfl) e, c⟩
  | dT kvs =>
    obtain ⟨z, y, xs, r, ob, es, ep, e, c⟩ := x
    exact ⟨z, y, xs, Paired.mapP r fun p q z => ⟨z.1, ht _ _ z.2.1, z.2.2⟩, ob, es, ep, k _ _ (.inl rfl) e, c⟩
  | set S n => obtain ⟨ob, es, ep, t, e, c⟩ := x; exact ⟨ob, es, ep, t, k _ _ (.inl rfl) e, c⟩
  | ins C dx fs =>
    obtain ⟨d, z, ne, e, mA, ⟨od, es, ep, e2, c⟩, r⟩ := x
    exact ⟨ho _ d, z, ne, k _ _ (.inl rfl) e, mA, ⟨od, es, ep, k _ _ (.inr d) e2, c⟩, r⟩
  | own y => obtain ⟨ob, e⟩ := x; exact ⟨ob, k _ _ (.inl rfl) e⟩
  | xd fs => obtain ⟨mA, ⟨od, es, ep, e, c⟩, r⟩ := x; exact ⟨mA, ⟨od, es, ep, k _ _ (.inl rfl) e, c⟩, r⟩
  | rng lo hi => obtain ⟨t, u, v, e⟩ := x; exact ⟨t, u, v, k _ _ (.inl rfl) e⟩
  | frz ob u ih => obtain ⟨e, q⟩ := x; exact ⟨k _ _ (.inl rfl) e, ih q⟩
  | tbl ps =>
    have e : h.get? a = some { cls := .none, data := .fields ps } := x
    show h'.get? a = some { cls := .none, data := .fields ps }
    exact k a _ (.inl rfl) e
  | met f y =>
    have e : h.get? a = some (PySem.W.methodObj (.ref f) (.ref y)) := x
    show h'.get? a = some (PySem.W.methodObj (.ref f) (.ref y))
    exact k a _ (.inl rfl) e
  | ext φ => obtain ⟨p, ⟨o, e⟩, st⟩ := x; exact ⟨st _ _ p fun o q => k _ _ (.inl rfl) q, ⟨o, k _ _ (.inl rfl) e⟩, st⟩
theorem HOk.lt (x : HOk P w H h) (e : H a = some o) : a < h.objs.size := (x a o e).lt
theorem HOk.fresh (x : HOk P w H h) (e : h.objs.size ≤ a) : H a = none := by
  cases q : H a with
  | none => rfl
  | some u => exact absurd (Nat.lt_of_lt_of_le (x.lt q) e) (Nat.lt_irrefl _)
theorem HOk.kept (x : HOk P w H h) (k : ∀ b u, h.get? b = some u → h'.get? b = some u) : HOk P w H h' := fun a o e =>
  (x a o e).stay (fun b u _ q => k b u q) (fun _ q => q) fun _ _ q => q
theorem HOk.laid (x : HOk P w H h) (k : ∀ b u, h.get? b = some u → h'.get? b = some u) (hp : h.objs.size ≤ a) (new : ya7 P w (upd H a o) h' a o) : HOk P w (upd H a o) h' := fun b u e => by
  have hn := x.fresh hp
  by_cases hb : b = a
  · subst hb; rw [zac] at e; cases e; exact new
  · rw [zag hb] at e
    exact (x b u e).stay (fun c v _ q => k c v q) (fun c q => by rw [zag (zaf q hn)]; exact q) fun c xs q => by rw [zag (zaf q hn)]; exact q
end
noncomputable def Rd (H : Hp) (a : Addr) (u : HO) : Prop := H a = some u ∨ ∃ o, H a = some (.frz o u)
theorem Rd.ok {P : Program} {w : World} {H : Hp} {h : Heap} {a : Addr} {u : HO} (r : Rd H a u) (x : HOk P w H h) : ya7 P w H h a u := by
  rcases r with r | ⟨o, r⟩
  · exact x a u r
  · obtain ⟨_, q⟩ := x a _ r
    exact q
noncomputable def Mut : Option HO → Prop
  | some (.lst _) => True
  | some (.dK _) => True
  | some (.dT _) => True
  | some (.set _ _) => True
  | some (.ins _ _ _) => True
  | some (.ext _) => True
  | _ => False
section
variable {P : Program} {w : World} {H : Hp} {h h' : Heap} {x e : Addr} {o' : HO}
theorem HOk.write (ok : HOk P w H h) (mu : Mut (H x)) (he : e = x ∨ H e = some (.own x)) (k : ∀ b u, b ≠ e → h.get? b = some u → h'.get? b = some u) (heo : ∃ u, h'.get? e = some u)
    (new : ya7 P w (upd H x o') h' x o') : HOk P w (upd H x o') h' := fun b u q => by
  have nown : ∀ c y, H c = some (.own y) → c ≠ x := fun c y r z => by subst z; rw [r] at mu; exact mu
  have ntup : ∀ c xs, H c = some (.tup xs) → c ≠ x := fun c xs r z => by subst z; rw [r] at mu; exact mu
  by_cases hb : b = x
  · subst hb; rw [zac] at q; cases q; exact new
  · rw [zag hb] at q
    by_cases hbe : b = e
    · have q' : H b = some (.own x) := by
        rcases he with z | z
        · exact absurd (hbe.trans z) hb
        · rw [hbe]; exact z
      rw [q] at q'; cases q'
      obtain ⟨v, hv⟩ := heo
      exact ⟨v, by rw [hbe]; exact hv⟩
    · refine (ok b u q).stay (fun c v hc r => k c v ?_ r) (fun c r => by rw [zag (nown c b r)]; exact r) fun c xs r => by rw [zag (ntup c xs r)]; exact r
      rcases hc with rfl | hc
      · exact hbe
      · rintro rfl
        rcases he with z | z
        · exact nown c b hc z
        · rw [hc] at z; cases z; exact hb rfl
end
structure Un (fs ex : List Addr) (H H' : Hp) (h h' : Heap) : Prop where
  keep : ∀ b o, h.get? b = some o → H b = none → b ∉ fs → b ∉ ex → h'.get? b = some o
  slot : ∀ b o, h.get? b = some o → H b = none → b ∈ fs → b ∉ ex → ∃ sl, h'.get? b = some { o with slots := sl }
  free : ∀ b o, h.get? b = some o → H b = none → b ∉ ex → H' b = none
  there : ∀ b o, h.get? b = some o → b ∉ ex → ∃ o', h'.get? b = some o'
  tups : ∀ b xs, H b = some (.tup xs) → H' b = some (.tup xs)
  frzs : ∀ b o u, H b = some (.frz o u) → H' b = some (.frz o u)
  tbls : ∀ b ps, H b = some (.tbl ps) → ∃ more, H' b = some (.tbl (ps ++ more))
section
variable {fs fs' ex ex' : List Addr} {H H1 H2 : Hp} {h h1 h2 h' : Heap} {a x e : Addr} {o : HO}
theorem Un.any (u : Un fs ex H H1 h h1) {b : Addr} {ob : Obj} (q : h.get? b = some ob) (n : H b = none) (hx : b ∉ ex) : ∃ sl, h1.get? b = some { ob with slots := sl } := by
  by_cases hb : b ∈ fs
  · exact u.slot b ob q n hb hx
  · exact ⟨ob.slots, u.keep b ob q n hb hx⟩
theorem Un.kept (k : ∀ b u, h.get? b = some u → h'.get? b = some u) : Un fs ex H H h h' :=
  ⟨fun b ob q _ _ _ => k b ob q, fun b ob q _ _ _ => ⟨ob.slots, k b ob q⟩, fun _ _ _ n _ => n, fun b ob q _ => ⟨ob, k b ob q⟩, fun _ _ q => q, fun _ _ _ q => q, fun _ ps q => ⟨#[], by rw [q]; simp⟩⟩
theorem Un.refl : Un fs ex H H h h := Un.kept fun _ _ q => q
theorem Un.laid (k : ∀ b u, h.get? b = some u → h'.get? b = some u) (hp : h.objs.size ≤ a) (hn : H a = none) : Un fs ex H (upd H a o) h h' where
  keep := fun b u q _ _ _ => k b u q
  slot := fun b u q _ _ _ => ⟨u.slots, k b u q⟩
  free := fun b u q n _ => by rw [zag (Nat.ne_of_lt (Nat.lt_of_lt_of_le (Heap.lt_size q) hp))]; exact n
  there := fun b u q _ => ⟨u, k b u q⟩
  tups := fun b xs q => by rw [zag (zaf q hn)]; exact q
  frzs := fun b u xs q => by rw [zag (zaf q hn)]; exact q
  tbls := fun b ps q => ⟨#[], by rw [zag (zaf q hn), q]; simp⟩
theorem Un.write (mu : Mut (H x)) (he : e = x ∨ H e = some (.own x)) (k : ∀ b u, b ≠ e → h.get? b = some u → h'.get? b = some u) (heo : ∃ u, h'.get? e = some u) : Un fs ex H (upd H x o) h h' := by
  have hx : ∀ b, H b = none → b ≠ x := fun b n z => by subst z; rw [n] at mu; exact mu
  have hb : ∀ b, H b = none → b ≠ e := fun b n z => by
    subst z
    rcases he with r | r
    · exact hx b n r
    · rw [n] at r; cases r
  have hm : ∀ b u, H b = some u → ¬ Mut (some u) → b ≠ x := fun b u q nm z => by subst z; rw [q] at mu; exact nm mu
  refine ⟨fun b u q n _ _ => k b u (hb b n) q, fun b u q n _ _ => ⟨u.slots, k b u (hb b n) q⟩, fun b u q n _ => by rw [zag (hx b n)]; exact n, fun b u q _ => ?_,
    fun b xs q => by rw [zag (hm b _ q fun z => z)]; exact q, fun b u xs q => by rw [zag (hm b _ q fun z => z)]; exact q, fun b ps q => ⟨#[], by rw [zag (hm b _ q fun z => z), q]; simp⟩⟩
  by_cases hbe : b = e
  · subst hbe; exact heo
  · exact ⟨u, k b u hbe q⟩
end
noncomputable def trk (h : Heap) (H : Hp) : List Addr := (List.range h.objs.size).filter fun a => (H a).isSome
noncomputable def hidT (h : Heap) (H : Hp) : Heap := PySem.W.hideAll h (trk h H)
theorem zeP (h : Heap) (H : Hp) : (hidT h H).objs.size = h.objs.size := PySem.W.hideAll_size _ _
theorem ze8 {h : Heap} {H : Hp} {b : Addr} {o : Obj} (e : h.get? b = some o) (n : H b = none) : (hidT h H).get? b = some o :=
  PySem.W.hideAll_get _ e fun hm => by
    have q : (H b).isSome = true := (List.mem_filter.mp hm).2
    rw [n] at q; simp at q
theorem yfC {h : Heap} {H : Hp} {b : Addr} {o : Obj} (e : (hidT h H).get? b = some o) : h.get? b = some o ∧ H b = none := by
  have e' : h.get? b = some o := PySem.W.of_hideAll (trk h H) e
  refine ⟨e', ?_⟩
  cases q : H b with
  | none => rfl
  | some x =>
    have hm : b ∈ trk h H := List.mem_filter.mpr ⟨List.mem_range.mpr (Heap.lt_size e'), by simp [q]⟩
    have z : (hidT h H).get? b = none := PySem.W.hideAll_none (trk h H) hm
    rw [z] at e; cases e
end L2
namespace L2
open PySem PySem.Spec PyProof.Rows
structure Mod (K : PySem.W.Frag) (mg : Str → Option Value) (base : Heap) : Prop where
  kin : K.In base
  glob : base.Ns mainGlobals mg
  blt : ∃ mb, base.Ns builtinsNs mb ∧ ∀ x : Str, x ≠ "__name__" → mb x = bootBuiltins x
  nolimit : base.NoLimit
structure Cx where
  prog : Program
  w : World
  K : PySem.W.Frag
  mg : Str → Option Value
  base : Heap
  A : Around
  N : List Str
  s₀ : Shared
  H₀ : Hp
  env : Env
  outer : List Env
  stack : List Env
  ex : List Addr
  fn : Str → Bool
  calm : Bool
  pn : List (Addr × Obj)
  xe : Value → Shared → Prop
noncomputable def frs (l : List Env) : List Addr := l.filterMap (·.frame)
noncomputable abbrev Cx.fs (X : Cx) : List Addr := frs X.outer
noncomputable def Vis (sc : Scope) (x : Str) : Prop := sc.names.lookup x = some .local ∨ sc.names.lookup x = some .cell ∨ sc.names.lookup x = some .free
noncomputable def Loc (sc : Scope) (x : Str) : Prop := sc.names.lookup x = some .local ∨ sc.names.lookup x = some .cell
noncomputable def Look (env : Env) (h : Heap) (m : Str → Option Value) (x : Str) (u : Value) : Prop :=
  (env.kindOf x = some .local ∧ m x = some u) ∨ ((env.kindOf x = some .cell ∨ env.kindOf x = some .free) ∧ ∃ c, env.cells.lookup x = some c ∧ h.IsCell c (some u))
structure Cx.Ok (X : Cx) : Prop where
  mod : Mod X.K X.mg X.base
  kind : X.env.scope.kind = .function
  glob : X.env.globals = mainGlobals
  blt : X.env.builtins = builtinsNs
  above : X.s₀.heap.objs.size ≤ X.env.locals
  inj : ∀ x y c, X.env.cells.lookup x = some c → X.env.cells.lookup y = some c → x = y
  has : ∀ x, (X.env.kindOf x = some .cell ∨ X.env.kindOf x = some .free) → ∃ c, X.env.cells.lookup x = some c
  cab : ∀ x c, X.fn x = true → X.env.cells.lookup x = some c → X.s₀.heap.objs.size ≤ c
  hd : X.calm = true → X.A.handled = none
  frames : X.A.frames = some X.stack
  stk : X.stack = X.outer ∨ (X.stack = X.env :: X.outer ∧ X.env.frame = some X.env.locals)
  exf : ∀ b ∈ X.ex, b ≠ X.env.locals ∧ ∀ x c, X.env.cells.lookup x = some c → c ≠ b
  bs : ∀ b o, X.base.get? b = some o → X.s₀.heap.get? b = some o ∧ X.H₀ b = none
  bsz : X.base.objs.size ≤ X.s₀.heap.objs.size
  noex : ∀ b o, X.base.get? b = some o → b ∉ X.ex
  exfs : ∀ b ∈ X.ex, b ∉ X.fs
  funs : X.s₀.heap.FunFrames X.base X.outer
  frf : ∀ b ∈ X.fs, X.H₀ b = none
structure Inv (X : Cx) (pins : List (Addr × Obj)) (σ : List (Option V)) (H : Hp) (s : Shared) : Prop where
  ok : X.Ok
  os : s.os = X.s₀.os
  bare : AllBare s.gens
  base : Un X.fs X.ex X.H₀ H X.s₀.heap s.heap
  loc : ∃ m, s.heap.Ns X.env.locals m ∧ ∀ (i : Nat) (x : Str) (v : V), X.N[i]? = some x → σ[i]? = some (some v) → Vis X.env.scope x → ∃ u, RelV v u ∧ Look X.env s.heap m x u
  cell : ∀ x c, X.env.cells.lookup x = some c → ∃ v, s.heap.IsCell c v
  free : H X.env.locals = none
  freeC : ∀ x c, X.env.cells.lookup x = some c → H c = none
  pin : ∀ p ∈ X.pn ++ pins, s.heap.get? p.1 = some p.2 ∧ H p.1 = none ∧ p.1 ≠ X.env.locals ∧ p.1 ∉ X.fs ∧ ∀ v, p.2.data ≠ .cell v
  hok : HOk X.prog X.w H s.heap
  len : σ.length = X.N.length
section
variable {X : Cx} {pins : List (Addr × Obj)} {σ : List (Option V)} {H H' : Hp} {s : Shared} {h' : Heap}
theorem Cx.Ok.nofr (ok : X.Ok) {b : Addr} {o : Obj} (e : X.base.get? b = some o) : b ∉ X.fs := fun hb => by
  have := (ok.funs.mem hb).1
  rw [e] at this; cases this
theorem Inv.bs (I : Inv X pins σ H s) : ∀ b o, X.base.get? b = some o → s.heap.get? b = some o ∧ H b = none := fun b o e =>
  ⟨I.base.keep b o (I.ok.bs b o e).1 (I.ok.bs b o e).2 (I.ok.nofr e) (I.ok.noex b o e), I.base.free b o (I.ok.bs b o e).1 (I.ok.bs b o e).2 (I.ok.noex b o e)⟩
theorem Inv.bk (I : Inv X pins σ H s) : ∀ b o, X.base.get? b = some o → s.heap.get? b = some o := fun b o e => (I.bs b o e).1
theorem Inv.mod (I : Inv X pins σ H s) : Mod X.K X.mg X.base := I.ok.mod
theorem Inv.kIn (I : Inv X pins σ H s) : X.K.In s.heap := I.ok.mod.kin.keeps I.bk
theorem Inv.lt (I : Inv X pins σ H s) : X.env.locals < s.heap.objs.size := let ⟨_, hn, _⟩ := I.loc; hn.lt
theorem Inv.sz (I : Inv X pins σ H s) : X.s₀.heap.objs.size ≤ s.heap.objs.size := Nat.le_trans I.ok.above (Nat.le_of_lt I.lt)
theorem Inv.nofs (I : Inv X pins σ H s) {a : Addr} (h : s.heap.objs.size ≤ a) : a ∉ X.fs := fun hb => by
  obtain ⟨_, o, ho, _⟩ := I.ok.funs.mem hb
  exact absurd (Nat.lt_of_lt_of_le (Heap.lt_size ho) (Nat.le_trans I.sz h)) (Nat.lt_irrefl _)
theorem Inv.cne (I : Inv X pins σ H s) : ∀ x c, X.env.cells.lookup x = some c → c ≠ X.env.locals := fun x c e z => by
  obtain ⟨v, o, ho, hd⟩ := I.cell x c e
  obtain ⟨m, ⟨o', es, ep, ho', hd', _⟩, _⟩ := I.loc
  rw [z, ho'] at ho; cases ho; rw [hd'] at hd; cases hd
theorem Inv.funs (I : Inv X pins σ H s) : s.heap.FunFrames X.base X.outer := by
  have all : ∀ (l : List Env), (∀ b ∈ frs l, b ∈ X.fs) → X.s₀.heap.FunFrames X.base l → s.heap.FunFrames X.base l := by
    intro l
    induction l with
    | nil => intro _ _; trivial
    | cons env r ih =>
      intro hs hl
      obtain ⟨hk, ⟨L, o, hf, hn, ho, hd⟩, hr⟩ := hl
      have hL : L ∈ X.fs := hs L (by unfold frs; rw [List.filterMap_cons, hf]; exact List.mem_cons_self)
      obtain ⟨sl, e⟩ := I.base.slot L o ho (I.ok.frf L hL) hL fun z => I.ok.exfs L z hL
      exact ⟨hk, ⟨L, _, hf, hn, e, hd⟩, ih (fun b hb => hs b (by unfold frs; rw [List.filterMap_cons, hf]; exact List.mem_cons_of_mem _ hb)) hr⟩
  exact all X.outer (fun _ hb => hb) I.ok.funs
theorem Inv.stack (I : Inv X pins σ H s) : s.heap.FunFrames X.base X.stack := by
  rcases I.ok.stk with e | ⟨e, hf⟩
  · rw [e]; exact I.funs
  · rw [e]
    obtain ⟨m, hn, _⟩ := I.loc
    refine .cons (by rw [I.ok.kind]; decide) hf hn ?_ I.funs
    exact Heap.get?_none_of_le (Nat.le_trans I.ok.bsz I.ok.above)
theorem Inv.stkSub (I : Inv X pins σ H s) : ∀ b ∈ frs X.stack, b ∈ X.env.locals :: X.fs := fun b hb => by
  rcases I.ok.stk with e | ⟨e, hf⟩
  · rw [e] at hb; exact List.mem_cons_of_mem _ hb
  · rw [e] at hb
    unfold frs at hb
    rw [List.filterMap_cons, hf] at hb
    exact hb
theorem Inv.stkFree (I : Inv X pins σ H s) : ∀ b ∈ frs X.stack, H b = none := fun b hb => by
  rcases List.mem_cons.mp (I.stkSub b hb) with e | hb
  · rw [e]; exact I.free
  · obtain ⟨_, o, ho, _⟩ := I.ok.funs.mem hb
    exact I.base.free b o ho (I.ok.frf b hb) fun z => I.ok.exfs b z hb
theorem Inv.step {g' : Array GenState} {t' : Nat} {d' : Drawn} {ch : List Addr} (I : Inv X pins σ H s)
    (hch : ∀ b ∈ ch, (b ∈ X.ex ∨ X.s₀.heap.objs.size ≤ b) ∧ b ≠ X.env.locals ∧ (∀ x c, X.env.cells.lookup x = some c → c ≠ b) ∧ ∀ p ∈ X.pn ++ pins, p.1 ≠ b)
    (keep : ∀ b o, b ≠ X.env.locals → b ∉ X.fs → b ∉ ch → s.heap.get? b = some o → H b = none → h'.get? b = some o)
    (slot : ∀ b o, b ≠ X.env.locals → b ∈ X.fs → b ∉ ch → s.heap.get? b = some o → H b = none → ∃ sl, h'.get? b = some { o with slots := sl }) (free : ∀ b o, b ∉ ch → s.heap.get? b = some o → H b = none → H' b = none)
    (there : ∀ b o, b ∉ ch → s.heap.get? b = some o → ∃ o', h'.get? b = some o')
    (tups : ∀ b xs, H b = some (.tup xs) → H' b = some (.tup xs)) (frzs : ∀ b o u, H b = some (.frz o u) → H' b = some (.frz o u)) (tbls : ∀ b ps, H b = some (.tbl ps) → ∃ more, H' b = some (.tbl (ps ++ more)))
    (ns : ∀ m, s.heap.Ns X.env.locals m → h'.Ns X.env.locals m) (hok : HOk X.prog X.w H' h') (hg : AllBare g') :
    Inv X pins σ H' { s with heap := h', gens := g', drawn := d', toks := t' } := by
  have neL : ∀ b o, X.s₀.heap.get? b = some o → b ≠ X.env.locals := fun b o e => Nat.ne_of_lt (Nat.lt_of_lt_of_le (Heap.lt_size e) I.ok.above)
  have neC : ∀ b o, X.s₀.heap.get? b = some o → b ∉ X.ex → b ∉ ch := fun b o e hx hb => by
    rcases (hch b hb).1 with z | z
    · exact hx z
    · exact absurd (Nat.lt_of_lt_of_le (Heap.lt_size e) z) (Nat.lt_irrefl _)
  have cellK : ∀ x c, X.env.cells.lookup x = some c → ∀ v, s.heap.IsCell c v → h'.IsCell c v := fun x c e v ⟨o, ho, hd⟩ => by
    have nch : c ∉ ch := fun z => (hch c z).2.2.1 x c e rfl
    by_cases hc : c ∈ X.fs
    · obtain ⟨sl, q⟩ := slot c o (I.cne x c e) hc nch ho (I.freeC x c e)
      exact ⟨_, q, hd⟩
    · exact ⟨o, keep c o (I.cne x c e) hc nch ho (I.freeC x c e), hd⟩
  refine ⟨I.ok, I.os, hg, ⟨fun b o e n hb hx => ?_, fun b o e n hb hx => ?_, fun b o e n hx => ?_, fun b o e hx => ?_, fun b xs e => tups b xs (I.base.tups b xs e), fun b o xs e => frzs b o xs (I.base.frzs b o xs e), fun b ps e => ?_⟩, ?_, fun x c e => ?_, ?_, fun x c e => ?_, fun p hp => ?_, hok, I.len⟩
  · exact keep b o (neL b o e) hb (neC b o e hx) (I.base.keep b o e n hb hx) (I.base.free b o e n hx)
  · obtain ⟨sl, e1⟩ := I.base.slot b o e n hb hx
    obtain ⟨sl', e2⟩ := slot b _ (neL b o e) hb (neC b o e hx) e1 (I.base.free b o e n hx)
    exact ⟨sl', e2⟩
  · obtain ⟨o', e1⟩ := I.base.there b o e hx
    exact free b o' (neC b o e hx) e1 (I.base.free b o e n hx)
  · obtain ⟨o', e1⟩ := I.base.there b o e hx
    exact there b o' (neC b o e hx) e1
  · obtain ⟨m1, e1⟩ := I.base.tbls b ps e
    obtain ⟨m2, e2⟩ := tbls b _ e1
    exact ⟨m1 ++ m2, by rw [e2, Array.append_assoc]⟩
  · obtain ⟨m, hn, hl⟩ := I.loc
    refine ⟨m, ns m hn, fun i x v e1 e2 e3 => ?_⟩
    obtain ⟨u, r, l⟩ := hl i x v e1 e2 e3
    refine ⟨u, r, ?_⟩
    rcases l with l | ⟨k, c, e, z⟩
    · exact .inl l
    · exact .inr ⟨k, c, e, cellK x c e _ z⟩
  · obtain ⟨v, z⟩ := I.cell x c e
    exact ⟨v, cellK x c e v z⟩
  · obtain ⟨m, ⟨o, _, _, ho, _⟩, _⟩ := I.loc
    exact free _ o (fun z => (hch _ z).2.1 rfl) ho I.free
  · obtain ⟨v, o, ho, hd⟩ := I.cell x c e
    exact free c o (fun z => (hch c z).2.2.1 x c e rfl) ho (I.freeC x c e)
  · obtain ⟨e, n, ne, nf, d⟩ := I.pin p hp
    have nch : p.1 ∉ ch := fun z => (hch p.1 z).2.2.2 p hp rfl
    exact ⟨keep p.1 p.2 ne nf nch e n, free p.1 p.2 nch e n, ne, nf, d⟩
theorem Inv.un {t' : Nat} (I : Inv X pins σ H s) (u : Un X.fs [] H H' s.heap h') (hok : HOk X.prog X.w H' h') : Inv X pins σ H' { s with heap := h', toks := t' } := by
  obtain ⟨m, ⟨o, es, ep, ho, r⟩, _⟩ := id I.loc
  obtain ⟨sl, hL⟩ := u.any ho I.free (by simp)
  exact I.step (g' := s.gens) (d' := s.drawn) (ch := []) (fun _ z => nomatch z) (fun b o _ hb _ e n => u.keep b o e n hb (by simp)) (fun b o _ hb _ e n => u.slot b o e n hb (by simp)) (fun b o _ e n => u.free b o e n (by simp)) (fun b o _ e => u.there b o e (by simp)) u.tups u.frzs u.tbls (fun m' hm => by
    obtain ⟨o', es', ep', ho', r'⟩ := hm
    rw [ho] at ho'; cases ho'
    exact ⟨_, es', ep', hL, r'⟩) hok I.bare
theorem Inv.call {g' : Array GenState} {t' : Nat} {d' : Drawn} {ch : List Addr} (I : Inv X pins σ H s) (u : Un (frs X.stack) ch H H' s.heap h') (hok : HOk X.prog X.w H' h') (hg : AllBare g')
    (hch : ∀ b ∈ ch, (b ∈ X.ex ∨ X.s₀.heap.objs.size ≤ b) ∧ b ≠ X.env.locals ∧ (∀ x c, X.env.cells.lookup x = some c → c ≠ b) ∧ ∀ p ∈ X.pn ++ pins, p.1 ≠ b) :
    Inv X pins σ H' { s with heap := h', gens := g', drawn := d', toks := t' } := by
  obtain ⟨m, ⟨o, es, ep, ho, r⟩, _⟩ := id I.loc
  obtain ⟨sl, hL⟩ := u.any ho I.free fun z => (hch _ z).2.1 rfl
  exact I.step (ch := ch) hch (fun b o hL hb hc e n => u.keep b o e n (fun z => (List.mem_cons.mp (I.stkSub b z)).elim hL hb) hc) (fun b o _ _ hc e n => u.any e n hc) (fun b o hc e n => u.free b o e n hc) (fun b o hc e => u.there b o e hc) u.tups u.frzs u.tbls (fun m' hm => by
    obtain ⟨o', es', ep', ho', r'⟩ := hm
    rw [ho] at ho'; cases ho'
    exact ⟨_, es', ep', hL, r'⟩) hok hg
theorem Inv.turned {t' : Nat} {it : Addr} (I : Inv X pins σ H s) (k : ∀ b o, b ≠ it → s.heap.get? b = some o → h'.get? b = some o) (hn : H it = none) (hL : it ≠ X.env.locals)
    (h1 : it ∈ X.ex ∨ X.s₀.heap.objs.size ≤ it) (h2 : ∀ x c, X.env.cells.lookup x = some c → c ≠ it) (h3 : ∀ p ∈ X.pn ++ pins, p.1 ≠ it) : Inv X pins σ H { s with heap := h', toks := t' } := by
  have nit : ∀ b u, H b = some u → b ≠ it := fun b u e z => by rw [z, hn] at e; cases e
  refine I.step (g' := s.gens) (d' := s.drawn) (ch := [it]) (fun b hb => ?_) (fun b o _ _ hc e _ => k b o (fun z => hc (by simp [z])) e) (fun b o _ _ hc e _ => ⟨o.slots, k b o (fun z => hc (by simp [z])) e⟩) (fun _ _ _ _ n => n)
    (fun b o hc e => ⟨o, k b o (fun z => hc (by simp [z])) e⟩) (fun _ _ e => e) (fun _ _ _ e => e) (fun b ps e => ⟨#[], by rw [e]; simp⟩) (fun m hm => ?_) (fun b u e => ?_) I.bare
  · have e : b = it := by simpa using hb
    subst e
    exact ⟨h1, hL, h2, h3⟩
  · obtain ⟨o, es, ep, ho, r⟩ := hm
    exact ⟨o, es, ep, k _ o (Ne.symm hL) ho, r⟩
  · refine (I.hok b u e).stay (fun c v hc q => k c v ?_ q) (fun _ q => q) fun _ _ q => q
    rcases hc with z | z
    · rw [z]; exact nit b u e
    · exact nit c _ z
theorem Inv.tok (I : Inv X pins σ H s) (t : Nat) : Inv X pins σ H { s with toks := t } := I.un (h' := s.heap) (t' := t) Un.refl I.hok
theorem Inv.kept {t' : Nat} (I : Inv X pins σ H s) (k : ∀ b u, s.heap.get? b = some u → h'.get? b = some u) : Inv X pins σ H { s with heap := h', toks := t' } := I.un (Un.kept k) (I.hok.kept k)
theorem Inv.laid {a : Addr} {o : HO} {t' : Nat} (I : Inv X pins σ H s) (k : ∀ b u, s.heap.get? b = some u → h'.get? b = some u) (hp : s.heap.objs.size ≤ a) (new : ya7 X.prog X.w (upd H a o) h' a o) :
    Inv X pins σ (upd H a o) { s with heap := h', toks := t' } := I.un (Un.laid k hp (I.hok.fresh hp)) (I.hok.laid k hp new)
theorem Inv.write {x e : Addr} {o : HO} {t' : Nat} (I : Inv X pins σ H s) (mu : Mut (H x)) (he : e = x ∨ H e = some (.own x)) (k : ∀ b u, b ≠ e → s.heap.get? b = some u → h'.get? b = some u) (heo : ∃ u, h'.get? e = some u)
    (new : ya7 X.prog X.w (upd H x o) h' x o) : Inv X pins σ (upd H x o) { s with heap := h', toks := t' } := I.un (Un.write mu he k heo) (I.hok.write mu he k heo new)
theorem Inv.pins_of {pins' : List (Addr × Obj)} (I : Inv X pins σ H s) (h : ∀ p ∈ pins', s.heap.get? p.1 = some p.2 ∧ H p.1 = none ∧ p.1 ≠ X.env.locals ∧ p.1 ∉ X.fs ∧ ∀ v, p.2.data ≠ .cell v) : Inv X pins' σ H s :=
  ⟨I.ok, I.os, I.bare, I.base, I.loc, I.cell, I.free, I.freeC, fun p hp => (List.mem_append.mp hp).elim (fun z => I.pin p (List.mem_append_left _ z)) (h p), I.hok, I.len⟩
theorem zdE {N : List Str} (hN : N.Nodup) {i j : Nat} {x : Str} (a : N[i]? = some x) (b : N[j]? = some x) : i = j := by
  obtain ⟨h1, e1⟩ := List.getElem?_eq_some_iff.mp a
  obtain ⟨h2, e2⟩ := List.getElem?_eq_some_iff.mp b
  exact (List.getElem_inj hN).mp (e1.trans e2.symm)
theorem zev {M : Model} {A : Around} {E : Value → Shared → Prop} {i : Nat} {x : Str} {v : V} {u : Value} {Q : Unit → Shared → Prop} (I : Inv X pins σ H s) (hN : X.N.Nodup) (hi : X.N[i]? = some x) (hx : Loc X.env.scope x) (r : RelV v u)
    (h : ∀ s', Inv X pins (σ.set i (some v)) H s' → (∃ a, Heap.SameBut a s.heap s'.heap ∧ (a = X.env.locals ∨ X.env.cells.lookup x = some a)) → Q () s') (hf : X.fn x = true ∨ X.env.scope.names.lookup x = some .local := by first | exact .inl rfl | exact .inr rfl | assumption) : wpAny M A (storeName X.env x u) Q E s := by
  obtain ⟨m, hn, hl⟩ := id I.loc
  have hcls : (X.env.scope.kind == .class || (X.env.scope.kind == .module && X.env.locals != X.env.globals)) = false := by rw [I.ok.kind]; rfl
  have hiσ : i < σ.length := by rw [I.len]; exact (List.getElem?_eq_some_iff.mp hi).1
  have cne := I.cne
  have tracked : ∀ {a : Addr} {h' : Heap}, (∃ o, s.heap.get? a = some o ∧ H a = none) → Heap.SameBut a s.heap h' → HOk X.prog X.w H h' := fun {a h'} ha hs b ob e => by
    obtain ⟨_, _, hfree⟩ := ha
    refine (I.hok b ob e).stay (fun c w' hc q => (hs.2 c ?_).trans q) (fun _ q => q) fun _ _ q => q
    rintro rfl
    rcases hc with rfl | hc
    · rw [hfree] at e; cases e
    · rw [hfree] at hc; cases hc
  rcases hx with hk | hk
  · refine wpAny_storeName_local hk hn (fun h' hn' hs => ?_) hcls
    obtain ⟨oL, _, _, hoL, _⟩ := id hn
    refine h _ ⟨I.ok, I.os, I.bare, ⟨fun b o e n hb hx => ?_, fun b o e n hb hx => ?_, I.base.free, fun b o e hx => ?_, I.base.tups, I.base.frzs, I.base.tbls⟩, ⟨_, hn', fun j y v' e1 e2 e3 => ?_⟩, fun y c e => ?_, I.free, I.freeC, fun p hp => ?_, tracked ⟨oL, hoL, I.free⟩ hs, by simpa using I.len⟩ ⟨_, hs, .inl rfl⟩
    · exact (hs.2 b (Nat.ne_of_lt (Nat.lt_of_lt_of_le (Heap.lt_size e) I.ok.above))).trans (I.base.keep b o e n hb hx)
    · obtain ⟨sl, e1⟩ := I.base.slot b o e n hb hx
      exact ⟨sl, (hs.2 b (Nat.ne_of_lt (Nat.lt_of_lt_of_le (Heap.lt_size e) I.ok.above))).trans e1⟩
    · obtain ⟨o', e1⟩ := I.base.there b o e hx
      exact ⟨o', (hs.2 b (Nat.ne_of_lt (Nat.lt_of_lt_of_le (Heap.lt_size e) I.ok.above))).trans e1⟩
    · by_cases hj : j = i
      · subst hj
        rw [hi] at e1; cases e1
        rw [List.getElem?_set_self hiσ] at e2
        cases e2
        exact ⟨u, r, .inl ⟨hk, by simp⟩⟩
      · rw [List.getElem?_set_ne (Ne.symm hj)] at e2
        obtain ⟨u', r', q⟩ := hl j y v' e1 e2 e3
        refine ⟨u', r', ?_⟩
        rcases q with ⟨k, e⟩ | ⟨k, c, e, z⟩
        · refine .inl ⟨k, ?_⟩
          have : y ≠ x := fun e => hj (zdE hN e1 (e ▸ hi))
          simp [this, e]
        · exact .inr ⟨k, c, e, z.sameBut hs (cne y c e)⟩
    · obtain ⟨w', z⟩ := I.cell y c e
      exact ⟨w', z.sameBut hs (cne y c e)⟩
    · obtain ⟨e, n, ne, nf, d⟩ := I.pin p hp
      exact ⟨(hs.2 p.1 ne).trans e, n, ne, nf, d⟩
  · have hfn : X.fn x = true := by
      rcases hf with z | z
      · exact z
      · rw [z] at hk; cases hk
    obtain ⟨c, hc⟩ := I.ok.has x (.inl hk)
    obtain ⟨w', z⟩ := I.cell x c hc
    refine wpAny_storeName_cell I.ok.kind hk hc z (fun h' hc' hs => ?_)
    obtain ⟨oc, hoc, hocd⟩ := id z
    refine h { s with heap := h' } ⟨I.ok, I.os, I.bare, ⟨fun b o e n hb hx => ?_, fun b o e n hb hx => ?_, I.base.free, fun b o e hx => ?_, I.base.tups, I.base.frzs, I.base.tbls⟩, ⟨m, hn.sameBut hs (Ne.symm (cne x c hc)), fun j y v' e1 e2 e3 => ?_⟩, fun y c' e => ?_, I.free, I.freeC, fun p hp => ?_, tracked ⟨oc, hoc, I.freeC x c hc⟩ hs, by simpa using I.len⟩ ⟨c, hs, .inr hc⟩
    · exact (hs.2 b (Nat.ne_of_lt (Nat.lt_of_lt_of_le (Heap.lt_size e) (I.ok.cab x c hfn hc)))).trans (I.base.keep b o e n hb hx)
    · obtain ⟨sl, e1⟩ := I.base.slot b o e n hb hx
      exact ⟨sl, (hs.2 b (Nat.ne_of_lt (Nat.lt_of_lt_of_le (Heap.lt_size e) (I.ok.cab x c hfn hc)))).trans e1⟩
    · obtain ⟨o', e1⟩ := I.base.there b o e hx
      exact ⟨o', (hs.2 b (Nat.ne_of_lt (Nat.lt_of_lt_of_le (Heap.lt_size e) (I.ok.cab x c hfn hc)))).trans e1⟩
    · by_cases hj : j = i
      · subst hj
        rw [hi] at e1; cases e1
        rw [List.getElem?_set_self hiσ] at e2
        cases e2
        exact ⟨u, r, .inr ⟨.inl hk, c, hc, hc'⟩⟩
      · rw [List.getElem?_set_ne (Ne.symm hj)] at e2
        obtain ⟨u', r', q⟩ := hl j y v' e1 e2 e3
        refine ⟨u', r', ?_⟩
        rcases q with q | ⟨k, c', e, z'⟩
        · exact .inl q
        · refine .inr ⟨k, c', e, z'.sameBut hs ?_⟩
          rintro rfl
          exact hj (zdE hN e1 (I.ok.inj _ _ _ e hc ▸ hi))
    · by_cases hcc : c' = c
      · subst hcc; exact ⟨_, hc'⟩
      · obtain ⟨w2, z2⟩ := I.cell y c' e
        exact ⟨w2, z2.sameBut hs hcc⟩
    · obtain ⟨e, n, ne, nf, d⟩ := I.pin p hp
      refine ⟨(hs.2 p.1 ?_).trans e, n, ne, nf, d⟩
      intro q
      rw [q, hoc] at e
      have q' : oc = p.2 := Option.some.inj e
      exact d w' (by rw [← q']; exact hocd)
theorem zaU {M : Model} {A : Around} {E : Value → Shared → Prop} {i : Nat} {x : Str} {v : V} {u : Value} {Q : Unit → Shared → Prop} (I : Inv X pins σ H s) (hN : X.N.Nodup) (hi : X.N[i]? = some x) (hx : Loc X.env.scope x) (r : RelV v u)
    (h : ∀ s', Inv X pins (σ.set i (some v)) H s' → Q () s') (hf : X.fn x = true ∨ X.env.scope.names.lookup x = some .local := by first | exact .inl rfl | exact .inr rfl | assumption) : wpAny M A (storeName X.env x u) Q E s :=
  zev I hN hi hx r (fun s' I' _ => h s' I') hf
theorem Inv.call' {s' : Shared} {ch : List Addr} (I : Inv X pins σ H s) (ho : s'.os = s.os) (u : Un (frs X.stack) ch H H' s.heap s'.heap) (hok : HOk X.prog X.w H' s'.heap) (hg : AllBare s'.gens)
    (hch : ∀ b ∈ ch, (b ∈ X.ex ∨ X.s₀.heap.objs.size ≤ b) ∧ b ≠ X.env.locals ∧ (∀ x c, X.env.cells.lookup x = some c → c ≠ b) ∧ ∀ p ∈ X.pn ++ pins, p.1 ≠ b) : Inv X pins σ H' s' := by
  obtain ⟨h', g', d', t', o'⟩ := s'
  have e : o' = s.os := ho
  subst e
  exact I.call (g' := g') (t' := t') (d' := d') u hok hg hch
end
noncomputable abbrev XK := Value → Option Addr → Hp → Prop
noncomputable abbrev St := List (Option V)
noncomputable abbrev VK := V → Hp → Prop
noncomputable abbrev TE := St → Hp → VK → Prop
noncomputable abbrev TT := St → Hp → (Bool → Hp → Prop) → Prop
noncomputable abbrev TA := St → Hp → (List V → Hp → Prop) → Prop
structure Ends where
  nx : St → Hp → Prop
  rt : VK
  bk : St → Hp → Prop := fun _ _ => False
  ct : St → Hp → Prop := fun _ _ => False
noncomputable abbrev TS := Ends → St → Hp → Prop
noncomputable def EP (X : Cx) (pins : List (Addr × Obj)) (σ : St) (Q : VK) (u : Value) (s' : Shared) : Prop := ∃ v H', Inv X pins σ H' s' ∧ RelV v u ∧ Q v H'
noncomputable def TP (X : Cx) (pins : List (Addr × Obj)) (σ : St) (Q : Bool → Hp → Prop) (b : Bool) (s' : Shared) : Prop := ∃ H', Inv X pins σ H' s' ∧ Q b H'
noncomputable def AP (X : Cx) (pins : List (Addr × Obj)) (σ : St) (Q : List V → Hp → Prop) (us : List Value) (s' : Shared) : Prop := ∃ vs H', Inv X pins σ H' s' ∧ Vals vs us ∧ Q vs H'
noncomputable def SP (X : Cx) (pins : List (Addr × Obj)) (D : Ends) (f : Flow) (s' : Shared) : Prop :=
  match f with
  | .next => ∃ σ' H', Inv X pins σ' H' s' ∧ D.nx σ' H'
  | .brk => ∃ σ' H', Inv X pins σ' H' s' ∧ D.bk σ' H'
  | .cont => ∃ σ' H', Inv X pins σ' H' s' ∧ D.ct σ' H'
  | .ret u => ∃ v σ' H', Inv X pins σ' H' s' ∧ RelV v u ∧ D.rt v H'
noncomputable def PE (X : Cx) (e : Expr) (t : TE) : Prop :=
  ∀ (pins : List (Addr × Obj)) (s : Shared) (σ : St) (H : Hp) (Q : VK), Inv X pins σ H s → t σ H Q → wpAny (model X.prog X.w) X.A (eval e X.env) (EP X pins σ Q) X.xe s
noncomputable def PT (X : Cx) (e : Expr) (t : TT) : Prop :=
  ∀ (pins : List (Addr × Obj)) (s : Shared) (σ : St) (H : Hp) (Q : Bool → Hp → Prop), Inv X pins σ H s → t σ H Q → wpAny (model X.prog X.w) X.A (isTrue e X.env (eval e X.env)) (TP X pins σ Q) X.xe s
noncomputable def PW (X : Cx) (e : Expr) (t : TT) : Prop :=
  ∀ (whole : Sem Value) (pins : List (Addr × Obj)) (s : Shared) (σ : St) (H : Hp) (Q : Bool → Hp → Prop), Inv X pins σ H s → t σ H Q → wpAny (model X.prog X.w) X.A (isTrue e X.env whole) (TP X pins σ Q) X.xe s
theorem PW.pt {X : Cx} {e : Expr} {t : TT} (h : PW X e t) : PT X e t := h _
noncomputable def PA (X : Cx) (es : List Expr) (t : TA) : Prop :=
  ∀ (pos : Pos) (pins : List (Addr × Obj)) (s : Shared) (σ : St) (H : Hp) (Q : List V → Hp → Prop), Inv X pins σ H s → t σ H Q → wpAny (model X.prog X.w) X.A (spliced (backTo pos (starEach es X.env))) (AP X pins σ Q) X.xe s
noncomputable def PS (X : Cx) (st : Stmt) (t : TS) : Prop :=
  ∀ (pins : List (Addr × Obj)) (s : Shared) (σ : St) (H : Hp) (D : Ends), Inv X pins σ H s → t D σ H → wpAny (model X.prog X.w) X.A (exec st X.env) (SP X pins D) X.xe s
noncomputable def PSs (X : Cx) (st : List Stmt) (t : TS) : Prop :=
  ∀ (pins : List (Addr × Obj)) (s : Shared) (σ : St) (H : Hp) (D : Ends), Inv X pins σ H s → t D σ H → wpAny (model X.prog X.w) X.A (execs st X.env) (SP X pins D) X.xe s
theorem thn {α : Type} {t : Sem α} {Q Q' : α → Shared → Prop} {M : Model} {A : Around} {E : Value → Shared → Prop} {s : Shared} (h : wpAny M A t Q E s) (hQ : ∀ a s, Q a s → Q' a s) : wpAny M A t Q' E s := wpAny_mono h hQ fun _ _ x => x
end L2
namespace L2
open PySem PySem.Spec PyProof.Rows
section
variable {X : Cx}
theorem bin {a b : Expr} {ta tb : TE} (ha : PE X a ta) (hb : PE X b tb) {pins : List (Addr × Obj)} {s : Shared} {σ : St} {H : Hp} {R : V → V → Hp → Prop} (I : Inv X pins σ H s) (h : ta σ H fun x H1 => tb σ H1 fun y H2 => R x y H2)
    {α : Type} {Q : α → Shared → Prop} {f : Value → Value → Sem α}
    (hf : ∀ v u s2 x y H2, Inv X pins σ H2 s2 → RelV x v → RelV y u → R x y H2 → wpAny (model X.prog X.w) X.A (f v u) Q X.xe s2) :
    wpAny (model X.prog X.w) X.A (eval a X.env) (fun v s₁ => wpAny (model X.prog X.w) X.A (eval b X.env) (fun u s₂ => wpAny (model X.prog X.w) X.A (f v u) Q X.xe s₂) X.xe s₁) X.xe s := by
  refine thn (ha pins s σ H _ I h) fun v s1 ⟨x, H1, I1, r1, q1⟩ => ?_
  refine thn (hb pins s1 σ H1 _ I1 q1) fun u s2 ⟨y, H2, I2, r2, q2⟩ => ?_
  exact hf v u s2 x y H2 I2 r1 r2 q2
noncomputable def tVar (i : Nat) : TE := fun σ H Q => ∃ v, σ[i]? = some (some v) ∧ Q v H
noncomputable def tC (v : V) : TE := fun _ H Q => Q v H
theorem zfW {i : Nat} {x : Str} {pos : Pos} (hN : X.N[i]? = some x) (hv : Vis X.env.scope x) (hd : (x == ("__debug__" : Str)) = false := by decide) (hcd : (x == ("__classdict__" : Str)) = false := by decide) : PE X (.Name x pos) (tVar i) := by
  intro pins s σ H Q I h
  obtain ⟨v, e, h⟩ := h
  obtain ⟨m, hn, hl⟩ := I.loc
  obtain ⟨u, r, l⟩ := hl i x v hN e hv
  have fin : EP X pins σ Q u s := ⟨v, H, I, r, h⟩
  rcases l with ⟨hk, hm⟩ | ⟨hk, c, hc, hcell⟩
  · exact wpAny_Name (wpAny_loadName_local I.ok.kind hk hn hm fin) hd
  · rcases hk with hk | hk
    · exact wpAny_Name (wpAny_loadName_cell I.ok.kind hk hc hcell fin) hd
    · exact wpAny_Name (wpAny_loadName_free I.ok.kind hk hc hcell fin hcd) hd
theorem yab {i j pos} : PE X (.Constant (.int i) j pos) (tC (.int i)) := fun _ _ _ H _ I h => wpAny_Constant_int ⟨.int i, H, I.tok _, ⟨_, rfl⟩, h⟩
theorem yaT {b j pos} : PE X (.Constant (.bool b) j pos) (tC (.bl b)) := fun _ _ _ H _ I h => Constant_bool ⟨.bl b, H, I, rfl, h⟩
theorem zaT {x j pos} : PE X (.Constant (.str x) j pos) (tC (.str x)) := fun _ _ _ H _ I h => Calls.Constant_str ⟨.str x, H, I.tok _, ⟨_, rfl⟩, h⟩
noncomputable def Gl (X : Cx) (x : Str) : Prop := X.env.kindOf x = some .globalImplicit
theorem zeR {E : Value → Shared → Prop} {pins : List (Addr × Obj)} {s : Shared} {σ : St} {H : Hp} {x : Str} {u : Value} {pos : Pos} {Q : Value → Shared → Prop} (I : Inv X pins σ H s) (hg : Gl X x) (hm : X.mg x = some u) (h : Q u s)
    (hd : (x == ("__debug__" : Str)) = false := by decide) : wpAny (model X.prog X.w) X.A (eval (.Name x pos) X.env) Q E s :=
  Calls.Name_function_global I.ok.kind hg (Calls.loadGlobal_global (by rw [I.ok.glob]; exact I.mod.glob.keeps I.bk) hm h) hd
theorem ybq {E : Value → Shared → Prop} {pins : List (Addr × Obj)} {s : Shared} {σ : St} {H : Hp} {x : Str} {u : Value} {pos : Pos} {Q : Value → Shared → Prop} (I : Inv X pins σ H s) (hg : Gl X x) (hm : X.mg x = none) (hv : bootBuiltins x = some u) (h : Q u s)
    (hn : x ≠ "__name__" := by decide) (hd : (x == ("__debug__" : Str)) = false := by decide) : wpAny (model X.prog X.w) X.A (eval (.Name x pos) X.env) Q E s := by
  obtain ⟨mb, h1, h2⟩ := I.mod.blt
  exact Calls.Name_function_global I.ok.kind hg (Calls.loadGlobal_builtin (by rw [I.ok.glob]; exact I.mod.glob.keeps I.bk) hm (by rw [I.ok.blt]; exact h1.keeps I.bk) ((h2 x hn).trans hv) h) hd
theorem ydy {x : Str} {v : V} {u : Value} {pos : Pos} (hg : Gl X x) (hm : X.mg x = some u) (r : RelV v u) (hd : (x == ("__debug__" : Str)) = false := by decide) : PE X (.Name x pos) (tC v) :=
  fun _ _ _ H _ I h => zeR I hg hm ⟨v, H, I, r, h⟩ hd
theorem zbf {x : Str} {v : V} {u : Value} {pos : Pos} (hg : Gl X x) (hm : X.mg x = none) (hv : bootBuiltins x = some u) (r : RelV v u) (hn : x ≠ "__name__" := by decide) (hd : (x == ("__debug__" : Str)) = false := by decide) : PE X (.Name x pos) (tC v) :=
  fun _ _ _ H _ I h => ybq I hg hm hv ⟨v, H, I, r, h⟩ hn hd
noncomputable def t2I (ta tb : TE) (k : Int → Int → Hp → Prop) : St → Hp → Prop := fun σ H => ta σ H fun x H1 => tb σ H1 fun y H2 => ∃ i j, x = .int i ∧ y = .int j ∧ k i j H2
variable {a b : Expr} {ta tb : TE} {pos : Pos}
noncomputable def PC (X : Cx) (op : CmpOp) (a b : Expr) (t : TE) : Prop :=
  ∀ (pins : List (Addr × Obj)) (s : Shared) (σ : St) (H : Hp) (Q : VK), Inv X pins σ H s → t σ H Q →
    wpAny (model X.prog X.w) X.A (eval a X.env) (fun v s₁ => wpAny (model X.prog X.w) X.A (eval b X.env) (fun u s₂ => wpAny (model X.prog X.w) X.A (compareOp op v u) (EP X pins σ Q) X.xe s₂) X.xe s₁) X.xe s
noncomputable def tCmp (p : Int → Int → Bool) (ta tb : TE) : TE := fun σ H Q => t2I ta tb (fun i j H2 => Q (.bl (p i j)) H2) σ H
noncomputable abbrev tLt : TE → TE → TE := tCmp fun i j => decide (i < j)
noncomputable abbrev tLe : TE → TE → TE := tCmp fun i j => decide (i ≤ j)
noncomputable abbrev tGt : TE → TE → TE := tCmp fun i j => decide (j < i)
noncomputable abbrev tGe : TE → TE → TE := tCmp fun i j => decide (j ≤ i)
noncomputable abbrev tEqI : TE → TE → TE := tCmp fun i j => decide (i = j)
noncomputable abbrev tNeI : TE → TE → TE := tCmp fun i j => !decide (i = j)
noncomputable def tB (t : TE) : TT := fun σ H Q => t σ H fun x H1 => ∃ c, x = .bl c ∧ Q c H1
theorem pt_cmp {op : CmpOp} {t : TE} (h : PC X op a b t) (h1 : behindInMarks op b = false := by first | exact nobehind _ (by decide) (by decide) | rfl) : PT X (.Compare a [op] [b] pos) (tB t) := by
  intro pins s σ H Q I hw
  refine wpAny_isTrue_Compare1 (thn (h pins s σ H _ I hw) fun v s1 h1 => thn h1 fun u s2 h2 => thn h2 fun c s3 ⟨x, H1, I1, r1, q1⟩ => ?_) h1
  obtain ⟨d, rfl, q⟩ := q1
  cases r1
  exact wpAny_truthy_bool ⟨H1, I1, q⟩
theorem zaH {e : Expr} {t : TE} (h : PE X e t) (he : ∀ whole, isTrue e X.env whole = (do let v ← whole; standAt e.pos; holding [v] (truthy v)) := by intro _; rfl) : PT X e (tB t) := by
  intro pins s σ H Q I hw
  refine isTrue_plain (thn (h pins s σ H _ I hw) fun v s1 ⟨x, H1, I1, r1, q1⟩ => ?_) (he _)
  obtain ⟨d, rfl, q⟩ := q1
  cases r1
  exact wpAny_truthy_bool ⟨H1, I1, q⟩
variable {tA tB' : TT} {rest : List Expr}
noncomputable def tAnd (t u : TT) : TT := fun σ H Q => t σ H fun c H1 => if c = true then u σ H1 Q else Q false H1
noncomputable def tOr (t u : TT) : TT := fun σ H Q => t σ H fun c H1 => if c = true then Q true H1 else u σ H1 Q
noncomputable def tNot (t : TT) : TT := fun σ H Q => t σ H fun c H1 => Q (!c) H1
theorem zdw (ha : PT X a tA) : PW X (.BoolOp .And [a] pos) tA := by
  intro wh pins s σ H Q I h
  refine isTrue_and (thn (ha pins s σ H Q I h) fun c s1 e => ?_)
  cases c with
  | true => exact isTrue_and_nil e
  | false => exact e
theorem za1 (ha : PT X a tA) : PW X (.BoolOp .Or [a] pos) tA := by
  intro wh pins s σ H Q I h
  refine isTrue_or (thn (ha pins s σ H Q I h) fun c s1 e => ?_)
  cases c with
  | false => exact isTrue_or_nil e
  | true => exact e
theorem ydK (ha : PT X a tA) (hb : PW X (.BoolOp .And (b :: rest) pos) tB') : PW X (.BoolOp .And (a :: b :: rest) pos) (tAnd tA tB') := by
  intro wh pins s σ H Q I h
  refine isTrue_and (thn (ha pins s σ H _ I h) fun c s1 ⟨H1, I1, q1⟩ => ?_)
  cases c with
  | true => exact hb wh pins s1 σ H1 Q I1 q1
  | false => exact ⟨H1, I1, q1⟩
theorem zbE (ha : PT X a tA) (hb : PW X (.BoolOp .Or (b :: rest) pos) tB') : PW X (.BoolOp .Or (a :: b :: rest) pos) (tOr tA tB') := by
  intro wh pins s σ H Q I h
  refine isTrue_or (thn (ha pins s σ H _ I h) fun c s1 ⟨H1, I1, q1⟩ => ?_)
  cases c with
  | true => exact ⟨H1, I1, q1⟩
  | false => exact hb wh pins s1 σ H1 Q I1 q1
theorem zaP (ha : PT X a tA) : PT X (.UnaryOp .Not a pos) (tNot tA) := by
  intro pins s σ H Q I h
  exact isTrue_not (ha pins s σ H (fun c H1 => Q (!c) H1) I h)
noncomputable def ygf (ta tb : TE) : TE := fun σ H Q => ta σ H fun x H1 => ∃ c, x = .bl c ∧ if c = true then tb σ H1 Q else Q (.bl false) H1
noncomputable def ygc (ta : TE) : TE := fun σ H Q => ta σ H fun x H1 => ∃ c, x = .bl c ∧ Q (.bl (!c)) H1
theorem zeg {op} {t : TE} (h : PE X a t) : PE X (.BoolOp op [a] pos) t := fun pins s σ H Q I hw => BoolOp_one (h pins s σ H Q I hw)
theorem zdO (ha : PE X a ta) (hb : PE X (.BoolOp .And (b :: rest) pos) tb) : PE X (.BoolOp .And (a :: b :: rest) pos) (ygf ta tb) := by
  intro pins s σ H Q I h
  refine BoolOp_and (thn (ha pins s σ H _ I h) fun v s1 ⟨x, H1, I1, r1, q1⟩ => ?_)
  obtain ⟨c, rfl, q1⟩ := q1
  cases r1
  refine wpAny_truthy_bool ?_
  cases c with
  | true => exact hb pins s1 σ H1 Q I1 q1
  | false => exact ⟨.bl false, H1, I1, rfl, q1⟩
theorem zfg (ha : PE X a ta) : PE X (.UnaryOp .Not a pos) (ygc ta) := by
  intro pins s σ H Q I h
  refine UnaryOp_ (thn (ha pins s σ H _ I h) fun v s1 ⟨x, H1, I1, r1, q1⟩ => ?_)
  obtain ⟨c, rfl, q1⟩ := q1
  cases r1
  exact not_of (wpAny_truthy_bool ⟨.bl (!c), H1, I1, rfl, q1⟩)
end
end L2
namespace L2
open PySem PySem.Spec PyProof.Rows
noncomputable def SqL (K : PySem.W.Frag) (H : Hp) (a : Addr) (xs : List V) : Prop :=
  Rd H a (.lst xs) ∨
    ∃ (o : Obj) (its : Array Value) (n : Nat), K.lookup a = some o ∧ o.cls = .type "list" ∧ o.dict = none ∧ o.data = .seq its n ∧ its.size ≤ sizeLine ∧ Vals xs its.toList
noncomputable def SqT (K : PySem.W.Frag) (H : Hp) (a : Addr) (xs : List V) : Prop :=
  Rd H a (.tup xs) ∨
    ∃ (o : Obj) (its : Array Value) (n : Nat), K.lookup a = some o ∧ o.cls = .type "tuple" ∧ o.data = .seq its n ∧ its.size ≤ sizeLine ∧ Vals xs its.toList
noncomputable def absV : Value → Option V
  | .none => some .non
  | .bool b => some (.bl b)
  | .int i _ => some (.int i)
  | .str x _ => some (.str x)
  | .bytes b _ => some (.byt b)
  | .float b _ => some (.flt b)
  | .ref a => some (.ref a)
  | .type n => some (.ty n)
  | _ => none
theorem RelV.abs {x : V} {u : Value} (r : RelV x u) : absV u = some x := by
  cases x with
  | non => cases r; rfl
  | bl _ => cases r; rfl
  | int _ => obtain ⟨t, rfl⟩ := r; rfl
  | str _ => obtain ⟨t, rfl⟩ := r; rfl
  | byt _ => obtain ⟨t, rfl⟩ := r; rfl
  | flt _ => obtain ⟨t, rfl⟩ := r; rfl
  | ref _ => cases r; rfl
  | ty _ => cases r; rfl
theorem RelV.inj {x y : V} {u : Value} (r : RelV x u) (q : RelV y u) : x = y := Option.some.inj (r.abs.symm.trans q.abs)
theorem Vals.inj : ∀ {xs ys : List V} {us : List Value}, Vals xs us → Vals ys us → xs = ys
  | _, _, _, .nil, .nil => rfl
  | _, _, _, .cons r t, .cons r' t' => by rw [r.inj r', Vals.inj t t']
section
variable {X : Cx} {pins : List (Addr × Obj)} {σ : St} {H : Hp} {s : Shared} {a : Addr} {xs ys : List V}
theorem SqL.of {K : PySem.W.Frag} (h : H a = some (.lst xs)) : SqL K H a xs := .inl (.inl h)
theorem SqT.of {K : PySem.W.Frag} (h : H a = some (.tup xs)) : SqT K H a xs := .inl (.inl h)
theorem Inv.list (I : Inv X pins σ H s) (h : SqL X.K H a xs) : ∃ its : List Value, Vals xs its ∧ PlainL s.heap a its.toArray ∧ xs.length ≤ sizeLine := by
  rcases h with h | ⟨o, its, n, hk, hc, hd, hs, hz, r⟩
  · obtain ⟨z, its, n, r, e⟩ := h.ok I.hok
    exact ⟨its, r, ⟨_, n, e, rfl, rfl, rfl⟩, z⟩
  · refine ⟨its.toList, r, ⟨o, n, I.kIn a o hk, hc, hd, by simpa using hs⟩, ?_⟩
    have e := r.length
    simp only [Array.length_toList] at e
    omega
theorem Inv.tuple (I : Inv X pins σ H s) (h : SqT X.K H a xs) : ∃ its : List Value, Vals xs its ∧ IsTup s.heap a its.toArray ∧ xs.length ≤ sizeLine := by
  rcases h with h | ⟨o, its, n, hk, hc, hs, hz, r⟩
  · obtain ⟨z, its, r, p⟩ := h.ok I.hok
    exact ⟨its, r, p, z⟩
  · refine ⟨its.toList, r, ⟨o, I.kIn a o hk, hc, n, by simpa using hs⟩, ?_⟩
    have e := r.length
    simp only [Array.length_toList] at e
    omega
theorem Inv.list_inj (I : Inv X pins σ H s) (h : SqL X.K H a xs) (h' : SqL X.K H a ys) : xs = ys := by
  obtain ⟨its, r, ⟨o, n, e, _, _, d⟩, _⟩ := I.list h
  obtain ⟨its', r', ⟨o', n', e', _, _, d'⟩, _⟩ := I.list h'
  rw [e] at e'; cases e'
  rw [d] at d'
  injection d' with d1 _
  have : its = its' := by simpa using congrArg Array.toList d1
  subst this
  exact r.inj r'
theorem Inv.tuple_inj (I : Inv X pins σ H s) (h : SqT X.K H a xs) (h' : SqT X.K H a ys) : xs = ys := by
  obtain ⟨its, r, ⟨o, e, _, n, d⟩, _⟩ := I.tuple h
  obtain ⟨its', r', ⟨o', e', _, n', d'⟩, _⟩ := I.tuple h'
  rw [e] at e'; cases e'
  rw [d] at d'
  injection d' with d1 _
  have : its = its' := by simpa using congrArg Array.toList d1
  subst this
  exact r.inj r'
end
noncomputable abbrev Cx.wish (X : Cx) (E : Value → Shared → Prop) : Cx := { X with xe := E }
noncomputable abbrev Cx.nox (X : Cx) : Cx := X.wish fun _ _ => False
theorem Cx.Ok.wish {X : Cx} (ok : X.Ok) (E : Value → Shared → Prop) : (X.wish E).Ok :=
  ⟨ok.mod, ok.kind, ok.glob, ok.blt, ok.above, ok.inj, ok.has, ok.cab, ok.hd, ok.frames, ok.stk, ok.exf, ok.bs, ok.bsz, ok.noex, ok.exfs, ok.funs, ok.frf⟩
theorem Cx.Ok.unwish {X : Cx} {E : Value → Shared → Prop} (ok : (X.wish E).Ok) : X.Ok :=
  ⟨ok.mod, ok.kind, ok.glob, ok.blt, ok.above, ok.inj, ok.has, ok.cab, ok.hd, ok.frames, ok.stk, ok.exf, ok.bs, ok.bsz, ok.noex, ok.exfs, ok.funs, ok.frf⟩
section
variable {X : Cx} {pins : List (Addr × Obj)} {σ : St} {H : Hp} {s : Shared} {E : Value → Shared → Prop}
theorem Inv.wish (I : Inv X pins σ H s) (E : Value → Shared → Prop) : Inv (X.wish E) pins σ H s := ⟨I.ok.wish E, I.os, I.bare, I.base, I.loc, I.cell, I.free, I.freeC, I.pin, I.hok, I.len⟩
theorem Inv.unwish (I : Inv (X.wish E) pins σ H s) : Inv X pins σ H s := ⟨I.ok.unwish, I.os, I.bare, I.base, I.loc, I.cell, I.free, I.freeC, I.pin, I.hok, I.len⟩
theorem SP.unwish {D : Ends} {f : Flow} {s' : Shared} (h : SP (X.wish E) pins D f s') : SP X pins D f s' := by
  cases f with
  | next => obtain ⟨σ', H', I, q⟩ := h; exact ⟨σ', H', I.unwish, q⟩
  | brk => obtain ⟨σ', H', I, q⟩ := h; exact ⟨σ', H', I.unwish, q⟩
  | cont => obtain ⟨σ', H', I, q⟩ := h; exact ⟨σ', H', I.unwish, q⟩
  | ret u => obtain ⟨v, σ', H', I, r, q⟩ := h; exact ⟨v, σ', H', I.unwish, r, q⟩
theorem PSs.nox {st : List Stmt} {t : TS} (h : PSs X.nox st t) : PSs X st t := fun pins s σ H D I hw =>
  wpAny_mono (h pins s σ H D (I.wish _) hw) (fun _ _ q => q.unwish) fun _ _ z => False.elim z
end
section
variable {X : Cx} {st : Stmt} {rest : List Stmt} {t u : TS} {e : Expr} {te : TE} {pos : Pos}
noncomputable def ycr : TS := fun D σ H => D.nx σ H
noncomputable def tSeq (t u : TS) : TS := fun D σ H => t { D with nx := u D } σ H
theorem yam : PSs X [] ycr := fun _ _ σ H _ I h => wpAny_execs_nil ⟨σ, H, I, h⟩
theorem yaa (h1 : PS X st t) (h2 : PSs X rest u) : PSs X (st :: rest) (tSeq t u) := by
  intro pins s σ H D I h
  refine wpAny_execs_cons (thn (h1 pins s σ H { D with nx := u D } I h) fun f s1 q => ?_)
  cases f with
  | next =>
    obtain ⟨σ', H', I', q⟩ := q
    exact h2 pins s1 σ' H' D I' q
  | ret v => exact q
  | brk => exact q
  | cont => exact q
theorem zad (h1 : PS X st t) : PSs X [st] t := by
  intro pins s σ H D I h
  refine wpAny_execs_cons (thn (h1 pins s σ H D I h) fun f s1 q => ?_)
  cases f with
  | next => exact wpAny_execs_nil q
  | ret v => exact q
  | brk => exact q
  | cont => exact q
theorem Inv.quiet {pins : List (Addr × Obj)} {σ : St} {H : Hp} {s : Shared} (I : Inv X pins σ H s) : interactive X.env = false := by simp [interactive, I.ok.kind]
noncomputable def ygh (te : TE) : TS := fun D σ H => te σ H fun _ H1 => D.nx σ H1
theorem yby (he : PE X e te) (hs : swapsWith e none pos.line X.env = pure false := by rfl) : PS X (.Expr e pos) (ygh te) := by
  intro pins s σ H D I h
  exact wpAny_Expr_any (thn (he pins s σ H _ I h) fun v s1 ⟨x, H1, I1, r1, q1⟩ => ⟨σ, H1, I1, q1⟩) I.quiet hs
noncomputable def tRet (te : TE) : TS := fun D σ H => te σ H D.rt
theorem zaj (he : PE X e te) : PS X (.Return (some e) pos) (tRet te) := by
  intro pins s σ H D I h
  exact wpAny_Return_some (thn (he pins s σ H _ I h) fun v s1 ⟨x, H1, I1, r1, q1⟩ => ⟨x, σ, H1, I1, r1, q1⟩)
noncomputable def tIfS (c : TT) (t u : TS) : TS := fun D σ H => c σ H fun b H1 => if b = true then t D σ H1 else u D σ H1
theorem zaC {c : Expr} {a b : List Stmt} {tc : TT} (hc : PT X c tc) (ha : PSs X a t) (hb : PSs X b u) : PS X (.If c a b pos) (tIfS tc t u) := by
  intro pins s σ H D I h
  refine wpAny_If (thn (hc pins s σ H _ I h) fun d s1 ⟨H1, I1, q1⟩ => ?_)
  cases d with
  | true => exact ha pins s1 σ H1 D I1 q1
  | false => exact hb pins s1 σ H1 D I1 q1
end
noncomputable abbrev TG := V → St → Hp → (St → Hp → Prop) → Prop
noncomputable abbrev TGs := List V → St → Hp → (St → Hp → Prop) → Prop
noncomputable def PG (X : Cx) (target : Expr) (t : TG) : Prop :=
  ∀ (pins : List (Addr × Obj)) (s : Shared) (σ : St) (H : Hp) (v : V) (u : Value) (Q : St → Hp → Prop), Inv X pins σ H s → RelV v u → t v σ H Q →
    wpAny (model X.prog X.w) X.A (assign target X.env u) (fun _ s' => ∃ σ' H', Inv X pins σ' H' s' ∧ Q σ' H') X.xe s
noncomputable def PGs (X : Cx) (ts : List Expr) (t : TGs) : Prop :=
  ∀ (pins : List (Addr × Obj)) (s : Shared) (σ : St) (H : Hp) (vs : List V) (us : List Value) (Q : St → Hp → Prop), Inv X pins σ H s → Vals vs us → t vs σ H Q →
    wpAny (model X.prog X.w) X.A (assignInOrder ((assignEach ts X.env).map (·.2)) us) (fun _ s' => ∃ σ' H', Inv X pins σ' H' s' ∧ Q σ' H') X.xe s
noncomputable abbrev TSet := V → V → V → Hp → (Hp → Prop) → Prop
noncomputable def PSet (X : Cx) (t : TSet) : Prop :=
  ∀ (pins : List (Addr × Obj)) (s : Shared) (σ : St) (H : Hp) (o i v : V) (ov iv u : Value) (Q : Hp → Prop), Inv X pins σ H s → RelV o ov → RelV i iv → RelV v u → t o i v H Q →
    wpAny (model X.prog X.w) X.A (setItem ov iv u) (fun _ s' => ∃ H', Inv X pins σ H' s' ∧ Q H') X.xe s
noncomputable abbrev TIp := V → V → Hp → VK → Prop
noncomputable def PIp (X : Cx) (op : Operator) (t : TIp) : Prop :=
  ∀ (pins : List (Addr × Obj)) (s : Shared) (σ : St) (H : Hp) (x y : V) (v u : Value) (Q : VK), Inv X pins σ H s → RelV x v → RelV y u → t x y H Q →
    wpAny (model X.prog X.w) X.A (inplaceOp op v u) (EP X pins σ Q) X.xe s
section
variable {X : Cx} {pos : Pos}
noncomputable def yaC (i : Nat) : TG := fun v σ H Q => Q (σ.set i (some v)) H
theorem yae {i : Nat} {x : Str} (hN : X.N.Nodup) (hi : X.N[i]? = some x) (hx : Loc X.env.scope x) (hf : X.fn x = true ∨ X.env.scope.names.lookup x = some .local := by first | exact .inl rfl | exact .inr rfl | assumption) : PG X (.Name x pos) (yaC i) := by
  intro pins s σ H v u Q I r h
  exact wpAny_assign_Name (zaU I hN hi hx r (fun s' I' => ⟨_, H, I', h⟩) hf)
noncomputable def gNil : TGs := fun vs σ H Q => vs = [] ∧ Q σ H
noncomputable def ygg (t : TG) (u : TGs) : TGs := fun vs σ H Q => ∃ v r, vs = v :: r ∧ t v σ H fun σ' H' => u r σ' H' Q
theorem zax : PGs X [] gNil := by
  intro pins s σ H vs us Q I r h
  obtain ⟨e, h⟩ := h
  subst e
  cases r
  exact assignInOrder_nil ⟨σ, H, I, h⟩
theorem yaf {e : Expr} {es : List Expr} {t : TG} {u : TGs} (h1 : PG X e t) (h2 : PGs X es u)
    (hs : (assignEach (e :: es) X.env).map (·.2) = assign e X.env :: (assignEach es X.env).map (·.2) := by rfl) : PGs X (e :: es) (ygg t u) := by
  intro pins s σ H vs us Q I r h
  obtain ⟨v, vr, e1, h⟩ := h
  subst e1
  cases r with
  | cons r rr =>
    rw [hs]
    refine assignInOrder_cons (thn (h1 pins s σ H _ _ _ I r h) fun _ s1 ⟨σ1, H1, I1, q1⟩ => ?_)
    exact h2 pins s1 σ1 H1 _ _ Q I1 rr q1
noncomputable def gTup (K : PySem.W.Frag) (n : Nat) (t : TGs) : TG := fun v σ H Q => ∃ a xs, v = .ref a ∧ SqT K H a xs ∧ xs.length = n ∧ t xs σ H Q
theorem zaQ {es : List Expr} {k : Nat} {t : TGs} {n : Nat} (hc : X.calm = true) (h : PGs X es t)
    (hn : (assignEach es X.env).length = n := by rfl) (hst : (assignEach es X.env).findIdx? (·.1) = none := by rfl) : PG X (.Tuple es k pos) (gTup X.K n t) := by
  intro pins s σ H v u Q I r hw
  obtain ⟨a, xs, e1, hq, hl, hw⟩ := hw
  subst e1
  cases r
  obtain ⟨its, rv, ht, hz⟩ := I.tuple hq
  refine assign_Tuple_tuple (I.ok.hd hc) ht (by simp [hn, ← hl, rv.length]) hst fun h' hx => ?_
  have I1 : Inv X pins σ H { s with heap := h' } := I.kept (t' := s.toks) fun b o e => hx b o (Nat.ne_of_lt (Heap.lt_size e)) e
  exact h pins _ σ H xs _ Q I1 (by simpa using rv) hw
noncomputable def gSub (to ti : TE) (t : TSet) : TG := fun v σ H Q => to σ H fun o H1 => ti σ H1 fun i H2 => t o i v H2 fun H3 => Q σ H3
theorem ydO {o i : Expr} {to ti : TE} {t : TSet} (ho : PE X o to) (hi : PE X i ti) (hs : PSet X t)
    (ha : ∀ v, assign (.Subscript o i pos) X.env v = (do
      let ov ← holding [v] (eval o X.env)
      let iv ← holding [v, ov] (eval i X.env)
      standAt pos
      holding [v, ov, iv] (setItem ov iv v)
      release [v, ov, iv] []) := by intro _; rfl) : PG X (.Subscript o i pos) (gSub to ti t) := by
  intro pins s σ H v u Q I r h
  rw [ha]
  refine wpAny_bind (wpAny_holding (thn (ho pins s σ H _ I h) fun ov s1 ⟨x, H1, I1, r1, q1⟩ => ?_))
  refine wpAny_bind (wpAny_holding (thn (hi pins s1 σ H1 _ I1 q1) fun iv s2 ⟨y, H2, I2, r2, q2⟩ => ?_))
  refine wpAny_bind (wpAny_standAt (wpAny_bind (wpAny_holding (thn (hs pins s2 σ H2 x y v ov iv u _ I2 r1 r2 r q2) fun _ s3 ⟨H3, I3, q3⟩ => ?_))))
  exact wpAny_release ⟨σ, H3, I3, q3⟩
noncomputable def tAsg (te : TE) (g : TG) : TS := fun D σ H => te σ H fun x H1 => g x σ H1 D.nx
theorem yaS {tg e : Expr} {te : TE} {g : TG} (he : PE X e te) (hg : PG X tg g) (hs : swapsWithSole [tg] e pos.line X.env = pure false := by rfl) (hw : swappedStores [tg] e X.env = pure none := by rfl)
    (h1 : (assignEach [tg] X.env).map (·.2) = [assign tg X.env] := by rfl) : PS X (.Assign [tg] e pos) (tAsg te g) := by
  intro pins s σ H D I h
  refine wpAny_Assign_stores (thn (he pins s σ H _ I h) fun v s1 ⟨x, H1, I1, r1, q1⟩ => ?_) hs hw
  rw [h1]
  exact thn (hg pins s1 σ H1 x v _ I1 r1 q1) fun _ s2 q => q
theorem yag {i : Nat} {x : Str} {e : Expr} {te : TE} {pos' : Pos} (hN : X.N.Nodup) (hi : X.N[i]? = some x) (hx : Loc X.env.scope x) (he : PE X e te) (hs : swapsWith e (some (.Name x pos')) pos.line X.env = pure false := by rfl) (hf : X.fn x = true ∨ X.env.scope.names.lookup x = some .local := by first | exact .inl rfl | exact .inr rfl | assumption) :
    PS X (.Assign [.Name x pos'] e pos) (tAsg te (yaC i)) := by
  intro pins s σ H D I h
  refine wpAny_Assign_Name (thn (he pins s σ H _ I h) fun v s1 ⟨y, H1, I1, r1, q1⟩ => ?_) hs
  exact zaU I1 hN hi hx r1 (fun s2 I2 => ⟨_, H1, I2, q1⟩) hf
noncomputable def tPar (i j : Nat) (ta : TA) : TS := fun D σ H => ta σ H fun vs H1 => ∃ v w, vs = [v, w] ∧ D.nx ((σ.set i (some v)).set j (some w)) H1
theorem zct {i j : Nat} {x y : Str} {a b : Expr} {ta : TA} {px py pt : Pos} {kt k2 pt2} (hc : X.calm = true) (hN : X.N.Nodup) (hi : X.N[i]? = some x) (hj : X.N[j]? = some y) (hij : i ≠ j)
    (hx : X.env.scope.names.lookup x = some .local) (hy : X.env.scope.names.lookup y = some .local) (ha : PA X [a, b] ta)
    (hw : swappedStores [.Tuple [.Name x px, .Name y py] kt pt] (.Tuple [a, b] k2 pt2) X.env = pure (some [x, y]))
    (hs : swapsWithSole [.Tuple [.Name x px, .Name y py] kt pt] (.Tuple [a, b] k2 pt2) pos.line X.env = pure false := by rfl) :
    PS X (.Assign [.Tuple [.Name x px, .Name y py] kt pt] (.Tuple [a, b] k2 pt2) pos) (tPar i j ta) := by
  intro pins s σ H D I h
  rw [exec_Assign_arm]
  refine wpAny_bind (wpAny_standAt ?_)
  rw [hs]
  refine wpAny_bind (wpAny_pure ?_)
  rw [if_neg (by decide)]
  refine wpAny_bind (Tuple_ (thn (ha _ pins s σ H _ I h) fun us s1 ⟨vs, H1, I1, r1, q1⟩ => ?_))
  obtain ⟨v, w, e1, q1⟩ := q1
  subst e1
  obtain ⟨u1, u2, rfl, rv, rw'⟩ : ∃ u1 u2, us = [u1, u2] ∧ RelV v u1 ∧ RelV w u2 := by
    cases r1 with
    | cons p q =>
      cases q with
      | cons p' q' =>
        cases q'
        exact ⟨_, _, rfl, p, p'⟩
  refine wpAny_newObj_type ?_ (by show 2 ≤ sizeLine; decide)
  have I2 : Inv X pins σ H1 { s1 with heap := s1.heap.push { cls := .type "tuple", data := .seq [u1, u2].toArray } } := I1.kept (t' := s1.toks) fun b o e => Heap.get?_push_of_some _ e
  rw [hw]
  refine wpAny_bind (wpAny_pure ?_)
  show wpAny (model X.prog X.w) X.A (do rule "assign.swapped-stores"; let items ← unpackItems (.ref s1.heap.objs.size) 2 none; assignInOrder [fun v => bindName X.env y v, fun v => bindName X.env x v] items.reverse; pure Flow.next) _ _ _
  refine wpAny_bind (wpAny_rule (wpAny_bind (unpackItems_tuple (items := #[u1, u2]) (I.ok.hd hc) (IsTup.new s1.heap _) fun h' hx' => ?_)))
  have I3 := I2.kept (h' := h') (t' := s1.toks) fun b o e => hx' b o (Nat.ne_of_lt (Heap.lt_size e)) e
  show wpAny _ _ (assignInOrder [fun v => bindName X.env y v, fun v => bindName X.env x v] [u2, u1] >>= fun _ => pure Flow.next) _ _ _
  refine wpAny_bind (assignInOrder_cons (wpAny_bindName (zaU I3 hN hj (.inl hy) rw' (fun s2 I4 => ?_) (.inr hy))))
  refine assignInOrder_cons (wpAny_bindName (zaU I4 hN hi (.inl hx) rv (fun s3 I5 => assignInOrder_nil (wpAny_pure ?_)) (.inr hx)))
  rw [List.set_comm _ _ (Ne.symm hij)] at I5
  exact ⟨_, H1, I5, q1⟩
noncomputable def tAug (i : Nat) (te : TE) (ti : TIp) : TS := fun D σ H => ∃ x, σ[i]? = some (some x) ∧ te σ H fun y H1 => ti x y H1 fun z H2 => D.nx (σ.set i (some z)) H2
theorem zbr {i : Nat} {x : Str} {e : Expr} {te : TE} {op : Operator} {ti : TIp} {pos' : Pos} (hN : X.N.Nodup) (hi : X.N[i]? = some x) (hx : Loc X.env.scope x) (he : PE X e te) (ho : PIp X op ti) (hf : X.fn x = true ∨ X.env.scope.names.lookup x = some .local := by first | exact .inl rfl | exact .inr rfl | assumption) :
    PS X (.AugAssign (.Name x pos') op e pos) (tAug i te ti) := by
  intro pins s σ H D I h
  obtain ⟨v, e1, h⟩ := h
  obtain ⟨m, hn, hl⟩ := I.loc
  have vis : Vis X.env.scope x := by rcases hx with k | k; exact .inl k; exact .inr (.inl k)
  obtain ⟨u, r, l⟩ := hl i x v hi e1 vis
  refine wpAny_AugAssign_Name ?_
  have go : wpAny (model X.prog X.w) X.A (eval e X.env) (fun w s₂ => wpAny (model X.prog X.w) X.A (inplaceOp op u w) (fun r s₃ => wpAny (model X.prog X.w) X.A (storeName X.env x r) (fun _ => SP X pins D .next) X.xe s₃) X.xe s₂) X.xe s := by
    refine thn (he pins s σ H _ I h) fun w s1 ⟨y, H1, I1, r1, q1⟩ => ?_
    refine thn (ho pins s1 σ H1 v y u w _ I1 r r1 q1) fun z s2 ⟨zv, H2, I2, r2, q2⟩ => ?_
    exact zaU I2 hN hi hx r2 (fun s3 I3 => ⟨_, H2, I3, q2⟩) hf
  rcases l with ⟨hk, hm⟩ | ⟨hk, c, hc, hcell⟩
  · exact wpAny_loadName_local I.ok.kind hk hn hm go
  · rcases hk with hk | hk
    · exact wpAny_loadName_cell I.ok.kind hk hc hcell go
    · rcases hx with k | k
      · have : X.env.scope.names.lookup x = some .free := hk
        rw [k] at this; cases this
      · have : X.env.scope.names.lookup x = some .free := hk
        rw [k] at this; cases this
end
section
variable {X : Cx} {pos : Pos}
noncomputable def zfj (c : TT) (tb : TS) : TS := fun D σ H => ∃ W : Nat → St → Hp → Prop, (∃ m, W m σ H) ∧ ∀ m σ H, W m σ H →
  c σ H fun b H1 => if b = true then ∃ N : St → Hp → Prop, (∀ σ' H', N σ' H' → ∃ m', m' < m ∧ W m' σ' H') ∧ tb { D with nx := N, ct := N, bk := D.nx } σ H1 else D.nx σ H1
theorem zaJ {c : Expr} {body : List Stmt} {tc : TT} {tb : TS} (hp : PassesOwn (model X.prog X.w) X.A X.env X.xe) (hc : PT X c tc) (hb : PSs X body tb) : PS X (.While c body [] pos) (zfj tc tb) := by
  intro pins s σ H D I h
  obtain ⟨W, ⟨m0, w0⟩, turn⟩ := h
  refine wpAny_While (codeAny_whileLoop (fun n s' => ∃ σ' H', Inv X pins σ' H' s' ∧ W n σ' H') ?_ m0 ⟨σ, H, I, w0⟩)
  rintro n s1 ⟨σ1, H1, I1, w1⟩
  refine wpAny_passesOwn hp (thn (hc pins s1 σ1 H1 _ I1 (turn n σ1 H1 w1)) fun b s2 ⟨H2, I2, q2⟩ => ?_)
  cases b with
  | true =>
    obtain ⟨N, hN, q2⟩ := q2
    rw [if_pos rfl]
    refine wpAny_passesOwn hp (thn (hb pins s2 σ1 H2 _ I2 q2) fun f s3 q3 => ?_)
    cases f with
    | next =>
      obtain ⟨σ3, H3, I3, n3⟩ := q3
      obtain ⟨m', hm, w3⟩ := hN σ3 H3 n3
      exact ⟨m', hm, σ3, H3, I3, w3⟩
    | cont =>
      obtain ⟨σ3, H3, I3, n3⟩ := q3
      obtain ⟨m', hm, w3⟩ := hN σ3 H3 n3
      exact ⟨m', hm, σ3, H3, I3, w3⟩
    | brk => exact q3
    | ret v => exact q3
  | false =>
    rw [if_neg Bool.false_ne_true]
    exact wpAny_execs_nil ⟨σ1, H2, I2, q2⟩
end
structure It where
  go : Nat → Hp → Prop
  yld : Nat → Hp → V → Hp → Prop
  stop : Nat → Hp → Prop
noncomputable def FpOk (X : Cx) (pins : List (Addr × Obj)) (H : Hp) (b : Addr) : Prop :=
  H b = none ∧ b ≠ X.env.locals ∧ b ∉ X.fs ∧ (b ∈ X.ex ∨ X.s₀.heap.objs.size ≤ b) ∧ (∀ x c, X.env.cells.lookup x = some c → c ≠ b) ∧ ∀ p ∈ X.pn ++ pins, p.1 ≠ b
theorem Inv.fpOk {X : Cx} {pins : List (Addr × Obj)} {σ : St} {H H' : Hp} {s : Shared} {b : Addr} (I : Inv X pins σ H s) (hb : s.heap.objs.size ≤ b) (hn : H' b = none) : FpOk X pins H' b := by
  refine ⟨hn, Nat.ne_of_gt (Nat.lt_of_lt_of_le I.lt hb), I.nofs hb, .inr (Nat.le_trans I.sz hb), fun x c e z => ?_, fun p hp z => ?_⟩
  · obtain ⟨v, q⟩ := I.cell x c e
    exact absurd (Nat.lt_of_lt_of_le q.lt (by rw [z]; exact hb)) (Nat.lt_irrefl _)
  · exact absurd (Nat.lt_of_lt_of_le (Heap.lt_size (I.pin p hp).1) (by rw [z]; exact hb)) (Nat.lt_irrefl _)
structure Turn (P : Program) (w : World) (K : PySem.W.Frag) (tg : Expr) (J : It) (fp : List Addr) (it : Addr) (tn : Nat → Heap → Prop) : Prop where
  mem : it ∈ fp
  obj : ∀ i h, tn i h → ∀ b ∈ fp, ∃ o, h.get? b = some o ∧ ∀ v, o.data ≠ .cell v
  keep : ∀ i h h', tn i h → (∀ b ∈ fp, ∀ o, h.get? b = some o → h'.get? b = some o) → tn i h'
  item : ∀ (X : Cx), X.prog = P → X.w = w → X.K = K → X.calm = true → ∀ (i : Nat) (pins : List (Addr × Obj)) (s : Shared) (σ : St) (H : Hp) (E : Value → Shared → Prop), Inv X pins σ H s → (∀ b ∈ fp, FpOk X pins H b) → tn i s.heap → J.go i H →
    wpAny (model P w) X.A (pyNext (.ref it)) (fun r s1 => ∃ u, r = some u ∧
      wpAny (model P w) X.A (letOwnedTupleGo tg (.ref it) u) (fun _ s2 => ∃ x H', Inv X pins σ H' s2 ∧ RelV x u ∧ J.yld i H x H' ∧ tn (i + 1) s2.heap ∧ ∀ b ∈ fp, H' b = none) E s1) E s
  done : ∀ (X : Cx), X.prog = P → X.w = w → X.K = K → X.calm = true → ∀ (i : Nat) (pins : List (Addr × Obj)) (s : Shared) (σ : St) (H : Hp) (E : Value → Shared → Prop), Inv X pins σ H s → (∀ b ∈ fp, FpOk X pins H b) → tn i s.heap → J.stop i H →
    wpAny (model P w) X.A (pyNext (.ref it)) (fun r s1 => r = none ∧ Inv X pins σ H s1) E s
  self : ∀ (A : Around) (i : Nat) (s : Shared) (Q : Value → Shared → Prop) (E : Value → Shared → Prop), tn i s.heap → Q (.ref it) s → wpAny (model P w) A (pyIter (.ref it)) Q E s
noncomputable abbrev TI := St → Hp → (It → Hp → Prop) → Prop
noncomputable def PIE (X : Cx) (pins : List (Addr × Obj)) (σ : St) (tg : Expr) (R : It → Hp → Prop) (itv : Value) (s2 : Shared) : Prop :=
  ∃ (it : Addr) (fp : List Addr) (tn : Nat → Heap → Prop) (J : It) (H' : Hp), itv = .ref it ∧ Inv X pins σ H' s2 ∧ Turn X.prog X.w X.K tg J fp it tn ∧ tn 0 s2.heap ∧ (∀ b ∈ fp, FpOk X pins H' b) ∧ R J H'
noncomputable def PI (X : Cx) (tg iter : Expr) (wi : TI) : Prop :=
  ∀ (pins : List (Addr × Obj)) (s : Shared) (σ : St) (H : Hp) (R : It → Hp → Prop), Inv X pins σ H s → wi σ H R →
    wpAny (model X.prog X.w) X.A (eval iter X.env) (fun v s1 => wpAny (model X.prog X.w) X.A (pyIter v) (PIE X pins σ tg R) X.xe s1) X.xe s
theorem ye0 {M : Model} {A : Around} {E : Value → Shared → Prop} {s : Shared} {tg : Expr} {it : Addr} {u : Value} {o : Obj} {n : String} {vs : Array Value} {Q : Unit → Shared → Prop} (ho : s.heap.get? it = some o) (hc : o.cls = .type n) (hd : o.data = .fields vs)
    (hn : ["enumerate", "zip", "dict_itemiterator", "dict_reverseitemiterator", "odict_iterator", "itertools.zip_longest", "itertools.pairwise"].contains n = false) (hQ : Q () s) : wpAny M A (letOwnedTupleGo tg (.ref it) u) Q E s := by
  unfold letOwnedTupleGo
  cases tg <;> first
    | exact wpAny_pure hQ
    | (cases u <;> first
        | exact wpAny_pure hQ
        | (refine wpAny_bind (wpAny_load ho ?_)
           rw [hc, hd]
           show wpAny M A (if (["enumerate", "zip", "dict_itemiterator", "dict_reverseitemiterator", "odict_iterator", "itertools.zip_longest", "itertools.pairwise"].contains n && vs[0]? == some (rawInt _)) = true then _ else _) Q E s
           rw [if_neg (by intro h; rw [hn, Bool.false_and] at h; cases h)]
           exact wpAny_pure hQ))
noncomputable def Itl (K : PySem.W.Frag) (a : Addr) : It :=
  ⟨fun i H => ∃ xs x, SqL K H a xs ∧ xs[i]? = some x, fun i H x H' => H' = H ∧ ∀ xs, SqL K H a xs → xs[i]? = some x, fun i H => ∃ xs, SqL K H a xs ∧ xs.length ≤ i⟩
noncomputable def Itt (K : PySem.W.Frag) (a : Addr) : It :=
  ⟨fun i H => ∃ xs x, SqT K H a xs ∧ xs[i]? = some x, fun i H x H' => H' = H ∧ ∀ xs, SqT K H a xs → xs[i]? = some x, fun i H => ∃ xs, SqT K H a xs ∧ xs.length ≤ i⟩
noncomputable def Itr (lo : Int) (n : Nat) : It := ⟨fun i _ => i < n, fun i H x H' => H' = H ∧ x = .int (lo + i), fun i _ => n ≤ i⟩
theorem yeF {P : Program} {w : World} {K : PySem.W.Frag} {tg : Expr} (a it : Addr) : Turn P w K tg (Itl K a) [it] it (fun i h => h.IsListIter it a i) where
  mem := by simp
  obj := fun i h st b hb => by
    have e : b = it := by simpa using hb
    subst e
    obtain ⟨o, e, c, d⟩ := st
    exact ⟨o, e, fun v z => by rw [d] at z; cases z⟩
  keep := fun i h h' st k => st.at fun o e => k it (by simp) o e
  item := by
    intro X hP hw hK hc i pins s σ H E I hf st hg
    subst hP hw hK
    obtain ⟨xs, x, hq, hx⟩ := hg
    obtain ⟨its, rv, p, hz⟩ := I.list hq
    obtain ⟨u, hu, ru⟩ := rv.get hx
    obtain ⟨f0, f1, f2, f3, f4, f5⟩ := hf it (by simp)
    refine wpAny_pyNext_list_item st p.isList (x := u) (by simpa using hu) fun h' st' sb => ?_
    have I1 : Inv X pins σ H { s with heap := h' } := I.turned (t' := s.toks) (fun b o hb e => (sb.2 b hb).trans e) f0 f1 f3 f4 f5
    obtain ⟨o, e, c, d⟩ := id st'
    exact ⟨u, rfl, ye0 (s := { s with heap := h' }) e c d (by decide) ⟨x, H, I1, ru, ⟨rfl, fun ys hy => by rw [I.list_inj hy hq]; exact hx⟩, st', fun b hb => (hf b hb).1⟩⟩
  done := by
    intro X hP hw hK hc i pins s σ H E I hf st hg
    subst hP hw hK
    obtain ⟨xs, hq, hx⟩ := hg
    obtain ⟨its, rv, p, hz⟩ := I.list hq
    obtain ⟨f0, f1, f2, f3, f4, f5⟩ := hf it (by simp)
    have hl := rv.length
    exact wpAny_pyNext_list_end (I.ok.hd hc) st p.isList (by simp; omega) fun h' eb => ⟨rfl, I.turned (t' := s.toks) (fun b o hb e => eb b o hb e) f0 f1 f3 f4 f5⟩
  self := fun _ _ _ _ _ st h => wpAny_pyIter_listiter st h
theorem zdW {P : Program} {w : World} {K : PySem.W.Frag} {tg : Expr} (a it : Addr) : Turn P w K tg (Itt K a) [it] it (fun i h => h.IsTupleIter it a i) where
  mem := by simp
  obj := fun i h st b hb => by
    have e : b = it := by simpa using hb
    subst e
    obtain ⟨o, e, c, d⟩ := st
    exact ⟨o, e, fun v z => by rw [d] at z; cases z⟩
  keep := fun i h h' st k => st.at fun o e => k it (by simp) o e
  item := by
    intro X hP hw hK hc i pins s σ H E I hf st hg
    subst hP hw hK
    obtain ⟨xs, x, hq, hx⟩ := hg
    obtain ⟨its, rv, p, hz⟩ := I.tuple hq
    obtain ⟨u, hu, ru⟩ := rv.get hx
    obtain ⟨f0, f1, f2, f3, f4, f5⟩ := hf it (by simp)
    refine wpAny_pyNext_tuple_item st (show s.heap.IsTuple a its.toArray from p) (x := u) (by simpa using hu) fun h' st' sb => ?_
    have I1 : Inv X pins σ H { s with heap := h' } := I.turned (t' := s.toks) (fun b o hb e => (sb.2 b hb).trans e) f0 f1 f3 f4 f5
    obtain ⟨o, e, c, d⟩ := id st'
    exact ⟨u, rfl, ye0 (s := { s with heap := h' }) e c d (by decide) ⟨x, H, I1, ru, ⟨rfl, fun ys hy => by rw [I.tuple_inj hy hq]; exact hx⟩, st', fun b hb => (hf b hb).1⟩⟩
  done := by
    intro X hP hw hK hc i pins s σ H E I hf st hg
    subst hP hw hK
    obtain ⟨xs, hq, hx⟩ := hg
    obtain ⟨its, rv, p, hz⟩ := I.tuple hq
    obtain ⟨f0, f1, f2, f3, f4, f5⟩ := hf it (by simp)
    have hl := rv.length
    exact wpAny_pyNext_tuple_end (I.ok.hd hc) st (show s.heap.IsTuple a its.toArray from p) (by simp; omega) fun h' eb => ⟨rfl, I.turned (t' := s.toks) (fun b o hb e => eb b o hb e) f0 f1 f3 f4 f5⟩
  self := fun _ _ _ _ _ st h => wpAny_pyIter_tupleiter st h
theorem ydW {P : Program} {w : World} {K : PySem.W.Frag} {tg : Expr} (it : Addr) (lo : Int) (n : Nat) : Turn P w K tg (Itr lo n) [it] it (fun i h => IsRangeIter h it (lo + (i : Nat) * 1) ((n : Int) - (i : Nat)) 1) where
  mem := by simp
  obj := fun i h st b hb => by
    have e : b = it := by simpa using hb
    subst e
    exact ⟨_, st, fun v z => by
      have z' : Data.fields _ = Data.cell v := z
      cases z'⟩
  keep := fun i h h' st k => k it (by simp) _ st
  item := by
    intro X hP hw hK hc i pins s σ H E I hf st hg
    subst hP hw hK
    obtain ⟨f0, f1, f2, f3, f4, f5⟩ := hf it (by simp)
    have W := Walks.range (prog := X.prog) (w := X.w) (I.ok.hd hc) it lo 1 n
    refine W.item i s _ _ hg st fun v h' tk hv st' kk => ?_
    obtain ⟨t, rfl⟩ := hv
    have I1 : Inv X pins σ H { s with heap := h', toks := tk } := I.turned (fun b o hb e => kk b o (by simpa using hb) e) f0 f1 f3 f4 f5
    refine ⟨_, rfl, ye0 (s := { s with heap := h', toks := tk }) (n := "range_iterator") st' rfl rfl (by decide) ⟨.int (lo + i), H, I1, ⟨t, ?_⟩, ⟨rfl, rfl⟩, st', fun b hb => (hf b hb).1⟩⟩
    rw [Int.mul_one]
  done := by
    intro X hP hw hK hc i pins s σ H E I hf st hg
    subst hP hw hK
    obtain ⟨f0, f1, f2, f3, f4, f5⟩ := hf it (by simp)
    exact wpAny_pyNext_range_end (I.ok.hd hc) st (by have : n ≤ i := hg; omega) fun h' eb => ⟨rfl, I.turned (t' := s.toks) (fun b o hb e => eb b o hb e) f0 f1 f3 f4 f5⟩
  self := fun _ _ _ _ _ st h => wpAny_pyIter_rangeiter st h
end L2
namespace L2
open PySem PySem.Spec PyProof.Rows
section
variable {X : Cx} {tg : Expr}
noncomputable def zgc (K : PySem.W.Frag) (tl : TE) : TI := fun σ H R => tl σ H fun x H1 => ∃ a, x = .ref a ∧ (∃ xs, SqL K H1 a xs) ∧ R (Itl K a) H1
noncomputable def iTup (K : PySem.W.Frag) (tl : TE) : TI := fun σ H R => tl σ H fun x H1 => ∃ a, x = .ref a ∧ (∃ xs, SqT K H1 a xs) ∧ R (Itt K a) H1
theorem zbv {l : Expr} {tl : TE} (hl : PE X l tl) : PI X tg l (zgc X.K tl) := by
  intro pins s σ H R I h
  refine thn (hl pins s σ H _ I h) fun v s1 ⟨x, H1, I1, r1, q1⟩ => ?_
  obtain ⟨a, e, ⟨xs, hq⟩, q⟩ := q1
  subst e
  cases r1
  obtain ⟨its, rv, p, hz⟩ := I1.list hq
  refine wpAny_pyIter_list p.isList ?_
  refine ⟨s1.heap.objs.size, [s1.heap.objs.size], _, _, H1, rfl, I1.kept (t' := s1.toks) fun b o e => Heap.get?_push_of_some _ e, yeF a _, ⟨_, Heap.get?_push_size _ rfl, rfl, rfl⟩, fun b hb => ?_, q⟩
  have e : b = s1.heap.objs.size := by simpa using hb
  subst e
  exact I1.fpOk (Nat.le_refl _) (I1.hok.fresh (Nat.le_refl _))
theorem ycA {l : Expr} {tl : TE} (hl : PE X l tl) : PI X tg l (iTup X.K tl) := by
  intro pins s σ H R I h
  refine thn (hl pins s σ H _ I h) fun v s1 ⟨x, H1, I1, r1, q1⟩ => ?_
  obtain ⟨a, e, ⟨xs, hq⟩, q⟩ := q1
  subst e
  cases r1
  obtain ⟨its, rv, p, hz⟩ := I1.tuple hq
  refine wpAny_pyIter_tuple (show s1.heap.IsTuple a its.toArray from p) ?_
  refine ⟨s1.heap.objs.size, [s1.heap.objs.size], _, _, H1, rfl, I1.kept (t' := s1.toks) fun b o e => Heap.get?_push_of_some _ e, zdW a _, ⟨_, Heap.get?_push_size _ rfl, rfl, rfl⟩, fun b hb => ?_, q⟩
  have e : b = s1.heap.objs.size := by simpa using hb
  subst e
  exact I1.fpOk (Nat.le_refl _) (I1.hok.fresh (Nat.le_refl _))
theorem zdF {pins : List (Addr × Obj)} {σ : St} {H : Hp} {s : Shared} {R : It → Hp → Prop} {E : Value → Shared → Prop} {lo hi : Int} {t u v : Tok} {tk : Nat} (I : Inv X pins σ H s) (h1 : -(2 ^ 62) ≤ lo) (h2 : lo < 2 ^ 62) (h3 : -(2 ^ 62) ≤ hi) (h4 : hi < 2 ^ 62)
    (q : R (Itr lo (hi - lo).toNat) H) : wpAny (model X.prog X.w) X.A (pyIter (.ref s.heap.objs.size)) (PIE X pins σ tg R) E { s with heap := s.heap.push { cls := .type "range", data := .fields #[.int lo t, .int hi u, .int 1 v] }, toks := tk } := by
  refine wpAny_pyIter_range (IsRange.new ..) (small_one h1 h2 h3 h4) ?_
  have I1 : Inv X pins σ H { s with heap := s.heap.push { cls := .type "range", data := .fields #[.int lo t, .int hi u, .int 1 v] }, toks := tk } := I.kept fun b o e => Heap.get?_push_of_some _ e
  refine ⟨(s.heap.push { cls := .type "range", data := .fields #[.int lo t, .int hi u, .int 1 v] }).objs.size, [(s.heap.push { cls := .type "range", data := .fields #[.int lo t, .int hi u, .int 1 v] }).objs.size], _, _, H, rfl,
    I1.kept (t' := tk) fun b o e => Heap.get?_push_of_some _ e, ydW _ lo (hi - lo).toNat, ?_, fun b hb => ?_, q⟩
  · have e1 : lo + ((0 : Nat) : Int) * 1 = lo := by simp
    have e2 : (((hi - lo).toNat : Nat) : Int) - ((0 : Nat) : Int) = Builtin.Range.rangeSize lo hi 1 := by rw [rangeSize_one]; split <;> omega
    show IsRangeIter _ _ (lo + ((0 : Nat) : Int) * 1) ((((hi - lo).toNat : Nat) : Int) - ((0 : Nat) : Int)) 1
    rw [e1, e2]
    exact Heap.get?_push_size _ rfl
  · have e : b = (s.heap.push { cls := .type "range", data := .fields #[.int lo t, .int hi u, .int 1 v] }).objs.size := by simpa using hb
    subst e
    exact I1.fpOk (Nat.le_refl _) (I1.hok.fresh (Nat.le_refl _))
noncomputable def zga (ta : TA) : TI := fun σ H R => ta σ H fun vs H1 => ∃ j : Int, vs = [.int j] ∧ -(2 ^ 62) ≤ j ∧ j < 2 ^ 62 ∧ R (Itr 0 j.toNat) H1
noncomputable def zgh (ta : TA) : TI := fun σ H R => ta σ H fun vs H1 => ∃ i j : Int, vs = [.int i, .int j] ∧ (-(2 ^ 62) ≤ i ∧ i < 2 ^ 62 ∧ -(2 ^ 62) ≤ j ∧ j < 2 ^ 62) ∧ R (Itr i (j - i).toNat) H1
theorem zaD {a : Expr} {ta : TA} {p pos : Pos} (hg : Gl X "range") (hm : X.mg "range" = none) (ha : PA X [a] ta) (hs : starEach [a] X.env = [(false, eval a X.env)] := by rfl) : PI X tg (.Call (.Name "range" p) [a] [] pos) (zga ta) := by
  intro pins s σ H R I h
  refine Call_ (ybq I hg hm boot_range (PyProof.Rows.callWith_type1 (thn (ha pos pins s σ H _ I h) fun us s1 ⟨vs, H1, I1, r1, q1⟩ => ?_) hs rfl))
  obtain ⟨j, e, q1, q2, q⟩ := q1
  subst e
  cases r1 with
  | cons r rr =>
    cases rr
    obtain ⟨t, rfl⟩ := r
    exact call_range_1 (zdF I1 (by omega) (by omega) q1 q2 (by simpa using q))
theorem yaW {a b : Expr} {ta : TA} {p pos : Pos} (hg : Gl X "range") (hm : X.mg "range" = none) (ha : PA X [a, b] ta) (hs : starEach [a, b] X.env = [(false, eval a X.env), (false, eval b X.env)] := by rfl) (hs2 : starEach [b] X.env = [(false, eval b X.env)] := by rfl) :
    PI X tg (.Call (.Name "range" p) [a, b] [] pos) (zgh ta) := by
  intro pins s σ H R I h
  refine Call_ (ybq I hg hm boot_range (PyProof.Rows.callWith_type1 (thn (ha pos pins s σ H _ I h) fun us s1 ⟨vs, H1, I1, r1, q1⟩ => ?_) (by rw [hs, hs2]) (by rw [hs2]; rfl)))
  obtain ⟨i, j, e, ⟨q1, q2, q3, q4⟩, q⟩ := q1
  subst e
  cases r1 with
  | cons r rr =>
    cases rr with
    | cons r' rr =>
      cases rr
      obtain ⟨t, rfl⟩ := r
      obtain ⟨t', rfl⟩ := r'
      exact call_range_2 (zdF I1 q1 q2 q3 q4 q)
noncomputable def tFor (wi : TI) (g : TG) (tb : TS) : TS := fun D σ H => wi σ H fun J H1 => ∃ W : Nat → Nat → St → Hp → Prop, (∃ m, W 0 m σ H1) ∧ ∀ i m σ H, W i m σ H →
  (J.stop i H ∧ D.nx σ H) ∨ (J.go i H ∧ ∃ N : St → Hp → Prop, (∀ σ' H', N σ' H' → ∃ m', m' < m ∧ W (i + 1) m' σ' H') ∧ ∀ x H', J.yld i H x H' → g x σ H' fun σ2 H2 => tb { D with nx := N, ct := N, bk := D.nx } σ2 H2)
noncomputable def ybZ (fp : List Addr) (h : Heap) : List (Addr × Obj) := fp.filterMap fun b => (h.get? b).map fun o => (b, o)
theorem zaW {fp : List Addr} {h : Heap} {b : Addr} {o : Obj} (hb : b ∈ fp) (e : h.get? b = some o) : (b, o) ∈ ybZ fp h := List.mem_filterMap.mpr ⟨b, hb, by rw [e]; rfl⟩
theorem zdg {fp : List Addr} {h : Heap} {p : Addr × Obj} (hp : p ∈ ybZ fp h) : p.1 ∈ fp ∧ h.get? p.1 = some p.2 := by
  obtain ⟨b, hb, e⟩ := List.mem_filterMap.mp hp
  cases q : h.get? b with
  | none => rw [q] at e; cases e
  | some o =>
    rw [q] at e
    have e' : (b, o) = p := Option.some.inj e
    subst e'
    exact ⟨hb, q⟩
theorem Inv.pinned {pins : List (Addr × Obj)} {σ : St} {H : Hp} {s : Shared} {fp : List Addr} (I : Inv X pins σ H s) (hf : ∀ b ∈ fp, FpOk X pins H b) (ho : ∀ b ∈ fp, ∃ o, s.heap.get? b = some o ∧ ∀ v, o.data ≠ .cell v) : Inv X (pins ++ ybZ fp s.heap) σ H s :=
  I.pins_of fun p hp => (List.mem_append.mp hp).elim (fun z => I.pin p (List.mem_append_right _ z)) fun z => by
    obtain ⟨hb, e⟩ := zdg z
    obtain ⟨f0, f1, f2, _⟩ := hf p.1 hb
    obtain ⟨o, e', d⟩ := ho p.1 hb
    rw [e] at e'; cases e'
    exact ⟨e, f0, f1, f2, d⟩
theorem Inv.unpinned {pins pl : List (Addr × Obj)} {σ : St} {H : Hp} {s : Shared} (I : Inv X (pins ++ pl) σ H s) : Inv X pins σ H s := I.pins_of fun p hp => I.pin p (List.mem_append_right _ (List.mem_append_left _ hp))
theorem zaG {iter : Expr} {body : List Stmt} {wi : TI} {g : TG} {tb : TS} {pos : Pos} (hp : PassesOwn (model X.prog X.w) X.A X.env X.xe) (hc : X.calm = true) (hi : PI X tg iter wi) (hg : PG X tg g) (hb : PSs X body tb)
    (hs : ∀ x, foldedSetIterable iter X.env x = pure x := by intro _; rfl) : PS X (.For tg iter body [] pos) (tFor wi g tb) := by
  intro pins s σ H D I h
  refine wpAny_For (thn (hi pins s σ H _ I h) fun v s1 h1 => thn h1 fun itv s2 h2 => ?_) hs
  obtain ⟨it, fp, tn, J, H2, e, I2, T, st2, f2, W, ⟨m0, w0⟩, turn⟩ := h2
  subst e
  have stat : ∀ {H' : Hp}, (∀ b ∈ fp, H' b = none) → ∀ b ∈ fp, FpOk X pins H' b := fun hn b hb => ⟨hn b hb, (f2 b hb).2⟩
  refine codeAny_forLoop_any (fun n s' => ∃ i σ' H', Inv X pins σ' H' s' ∧ tn i s'.heap ∧ (∀ b ∈ fp, H' b = none) ∧ W i n σ' H') ?_ m0 ⟨0, σ, H2, I2, st2, fun b hb => (f2 b hb).1, w0⟩
  rintro n s3 ⟨i, σ3, H3, I3, st3, fr3, w3⟩
  rcases turn i n σ3 H3 w3 with ⟨stop, qn⟩ | ⟨go, N, hN, step⟩
  · refine wpAny_passesOwn hp (thn (T.done X rfl rfl rfl hc i pins s3 σ3 H3 X.xe I3 (stat fr3) st3 stop) fun r s4 ⟨hr, I4⟩ => ?_)
    subst hr
    exact wpAny_execs_nil ⟨σ3, H3, I4, qn⟩
  · refine wpAny_passesOwn hp (thn (T.item X rfl rfl rfl hc i pins s3 σ3 H3 X.xe I3 (stat fr3) st3 go) fun r s4 ⟨u, hr, h4⟩ => ?_)
    subst hr
    refine wpAny_passesOwn hp (thn h4 fun _ s5 ⟨x, H5, I5, r5, y5, st5, fr5⟩ => ?_)
    have I5' := I5.pinned (stat fr5) (T.obj _ _ st5)
    refine wpAny_passesOwn hp (thn (hg _ s5 σ3 H5 x u _ I5' r5 (step x H5 y5)) fun _ s6 ⟨σ6, H6, I6, q6⟩ => ?_)
    refine wpAny_passesOwn hp (thn (hb _ s6 σ6 H6 _ I6 q6) fun f s7 q7 => ?_)
    have again : ∀ {σ7 : St} {H7 : Hp}, Inv X (pins ++ ybZ fp s5.heap) σ7 H7 s7 → N σ7 H7 → ∃ m, m < n ∧ ∃ i σ' H', Inv X pins σ' H' s7 ∧ tn i s7.heap ∧ (∀ b ∈ fp, H' b = none) ∧ W i m σ' H' := fun {σ7 H7} I7 n7 => by
      obtain ⟨m', hm, w7⟩ := hN σ7 H7 n7
      refine ⟨m', hm, i + 1, σ7, H7, I7.unpinned, T.keep _ _ _ st5 fun b hb o e => (I7.pin (b, o) (List.mem_append_right _ (List.mem_append_right _ (zaW hb e)))).1, fun b hb => ?_, w7⟩
      obtain ⟨o, e, d⟩ := T.obj _ _ st5 b hb
      exact (I7.pin (b, o) (List.mem_append_right _ (List.mem_append_right _ (zaW hb e)))).2.1
    cases f with
    | next => obtain ⟨σ7, H7, I7, n7⟩ := q7; exact again I7 n7
    | cont => obtain ⟨σ7, H7, I7, n7⟩ := q7; exact again I7 n7
    | brk => obtain ⟨σ7, H7, I7, q7⟩ := q7; exact ⟨σ7, H7, I7.unpinned, q7⟩
    | ret v => obtain ⟨x7, σ7, H7, I7, r7, q7⟩ := q7; exact ⟨x7, σ7, H7, I7.unpinned, r7, q7⟩
end
theorem ydH {K : PySem.W.Frag} {a : Addr} {xs : List V} {g : TG} {tb : TS} {D : Ends} {σ : St} {H : Hp} (Pv : Nat → St → Hp → Prop) (h0 : Pv 0 σ H) (hl : ∀ i σ H, i ≤ xs.length → Pv i σ H → SqL K H a xs)
    (hs : ∀ i x σ H, xs[i]? = some x → Pv i σ H → g x σ H fun σ2 H2 => tb { D with nx := Pv (i + 1), ct := Pv (i + 1), bk := D.nx } σ2 H2) (hd : ∀ σ H, Pv xs.length σ H → D.nx σ H) :
    ∃ W : Nat → Nat → St → Hp → Prop, (∃ m, W 0 m σ H) ∧ ∀ i m σ H, W i m σ H →
      ((Itl K a).stop i H ∧ D.nx σ H) ∨ ((Itl K a).go i H ∧ ∃ N : St → Hp → Prop, (∀ σ' H', N σ' H' → ∃ m', m' < m ∧ W (i + 1) m' σ' H') ∧ ∀ x H', (Itl K a).yld i H x H' → g x σ H' fun σ2 H2 => tb { D with nx := N, ct := N, bk := D.nx } σ2 H2) := by
  refine ⟨fun i m σ H => m = xs.length - i ∧ i ≤ xs.length ∧ Pv i σ H, ⟨xs.length, by simp, Nat.zero_le _, h0⟩, ?_⟩
  rintro i m σ H ⟨rfl, hi, p⟩
  have q := hl i σ H hi p
  by_cases hlt : i < xs.length
  · refine .inr ⟨⟨xs, xs[i], q, by simp [hlt]⟩, Pv (i + 1), fun σ' H' p' => ⟨xs.length - (i + 1), by omega, rfl, hlt, p'⟩, fun x H' y => ?_⟩
    obtain ⟨e, y⟩ := y
    subst e
    exact hs i x σ _ (y xs q) p
  · have e : i = xs.length := by omega
    subst e
    exact .inl ⟨⟨xs, q, Nat.le_refl _⟩, hd σ H p⟩
theorem yaw {lo : Int} {n : Nat} {g : TG} {tb : TS} {D : Ends} {σ : St} {H : Hp} (Pv : Nat → St → Hp → Prop) (h0 : Pv 0 σ H)
    (hs : ∀ i σ H, i < n → Pv i σ H → g (.int (lo + i)) σ H fun σ2 H2 => tb { D with nx := Pv (i + 1), ct := Pv (i + 1), bk := D.nx } σ2 H2) (hd : ∀ σ H, Pv n σ H → D.nx σ H) :
    ∃ W : Nat → Nat → St → Hp → Prop, (∃ m, W 0 m σ H) ∧ ∀ i m σ H, W i m σ H →
      ((Itr lo n).stop i H ∧ D.nx σ H) ∨ ((Itr lo n).go i H ∧ ∃ N : St → Hp → Prop, (∀ σ' H', N σ' H' → ∃ m', m' < m ∧ W (i + 1) m' σ' H') ∧ ∀ x H', (Itr lo n).yld i H x H' → g x σ H' fun σ2 H2 => tb { D with nx := N, ct := N, bk := D.nx } σ2 H2) := by
  refine ⟨fun i m σ H => m = n - i ∧ i ≤ n ∧ Pv i σ H, ⟨n, by simp, Nat.zero_le _, h0⟩, ?_⟩
  rintro i m σ H ⟨rfl, hi, p⟩
  by_cases hlt : i < n
  · refine .inr ⟨hlt, Pv (i + 1), fun σ' H' p' => ⟨n - (i + 1), by omega, rfl, hlt, p'⟩, fun x H' y => ?_⟩
    obtain ⟨e, y⟩ := y
    subst e y
    exact hs i σ _ hlt p
  · have e : i = n := by omega
    subst e
    exact .inl ⟨Nat.le_refl _, hd σ H p⟩
end L2
namespace L2
open PySem PySem.Spec PyProof.Rows
noncomputable abbrev R2 := V → V → Hp → VK → Prop
noncomputable def OpR (X : Cx) (f : Value → Value → Sem Value) (r : R2) : Prop :=
  ∀ (pins : List (Addr × Obj)) (s : Shared) (σ : St) (H : Hp) (x y : V) (v u : Value) (Q : VK), Inv X pins σ H s → RelV x v → RelV y u → r x y H Q →
    wpAny (model X.prog X.w) X.A (f v u) (EP X pins σ Q) X.xe s
noncomputable def UnR (X : Cx) (f : Value → Sem Value) (r : V → Hp → VK → Prop) : Prop :=
  ∀ (pins : List (Addr × Obj)) (s : Shared) (σ : St) (H : Hp) (x : V) (v : Value) (Q : VK), Inv X pins σ H s → RelV x v → r x H Q →
    wpAny (model X.prog X.w) X.A (f v) (EP X pins σ Q) X.xe s
noncomputable def ybn (X : Cx) (f : Value) (r : List V → Hp → VK → Prop) : Prop :=
  ∀ (pins : List (Addr × Obj)) (s : Shared) (σ : St) (H : Hp) (xs : List V) (us : List Value) (Q : VK), Inv X pins σ H s → Vals xs us → r xs H Q →
    wpAny (model X.prog X.w) X.A (call f us) (EP X pins σ Q) X.xe s
noncomputable def tOp (r : R2) (ta tb : TE) : TE := fun σ H Q => ta σ H fun x H1 => tb σ H1 fun y H2 => r x y H2 Q
noncomputable def tUn (r : V → Hp → VK → Prop) (ta : TE) : TE := fun σ H Q => ta σ H fun x H1 => r x H1 Q
noncomputable def rI (C : Int → Int → Prop) (g : Int → Int → V) : R2 := fun x y H Q => ∃ i j, x = .int i ∧ y = .int j ∧ C i j ∧ Q (g i j) H
noncomputable def rI0 (g : Int → Int → V) : R2 := fun x y H Q => ∃ i j, x = .int i ∧ y = .int j ∧ Q (g i j) H
noncomputable def rU (g : Int → V) : V → Hp → VK → Prop := fun x H Q => ∃ i, x = .int i ∧ Q (g i) H
section
variable {X : Cx} {a b c : Expr} {ta tb tc : TE} {pos : Pos}
theorem binT (ha : PE X a ta) (hb : PE X b tb) {pins : List (Addr × Obj)} {s : Shared} {σ : St} {H : Hp} {R : V → V → Hp → Prop} (I : Inv X pins σ H s)
    (h : ta σ H fun x H1 => tb σ H1 fun y H2 => R x y H2) {Q : Value → Shared → Prop} {f : Value → Value → Sem Value}
    (hf : ∀ v u s2 x y H2, Inv X pins σ H2 s2 → RelV x v → RelV y u → R x y H2 → wpAny (model X.prog X.w) X.A (f v u) Q X.xe s2) :
    wpAny (model X.prog X.w) X.A (eval a X.env) (fun v s₁ => wpAny (model X.prog X.w) X.A (eval b X.env) (fun u s₂ => wpAny (model X.prog X.w) X.A (f v u) Q X.xe s₂) X.xe s₁) X.xe s := by
  refine thn (ha pins s σ H _ I h) fun v s1 ⟨x, H1, I1, r1, q1⟩ => ?_
  refine thn (hb pins s1 σ H1 _ I1 q1) fun u s2 ⟨y, H2, I2, r2, q2⟩ => ?_
  exact hf v u s2 x y H2 I2 r1 r2 q2
theorem zah {op : Operator} {r : R2} (ho : OpR X (binaryOp op) r) (ha : PE X a ta) (hb : PE X b tb) : PE X (.BinOp a op b pos) (tOp r ta tb) := by
  intro pins s σ H Q I h
  exact wpAny_BinOp (binT ha hb I h fun v u s2 x y H2 I2 rx ry q => ho pins s2 σ H2 x y v u Q I2 rx ry q)
theorem zed {op : UnaryOp} {r : V → Hp → VK → Prop} (ho : UnR X (unaryOp op) r) (ha : PE X a ta) : PE X (.UnaryOp op a pos) (tUn r ta) := by
  intro pins s σ H Q I h
  exact UnaryOp_ (thn (ha pins s σ H _ I h) fun v s1 ⟨x, H1, I1, r1, q1⟩ => ho pins s1 σ H1 x v Q I1 r1 q1)
theorem opI {f : Value → Value → Sem Value} {C : Int → Int → Prop} {g : Int → Int → Int}
    (rule : ∀ (i j : Int) (t u : Tok) (s : Shared) (Q : Value → Shared → Prop) (E : Value → Shared → Prop), C i j → Q (.int (g i j) s.toks) { s with toks := s.toks + 1 } → wpAny (model X.prog X.w) X.A (f (.int i t) (.int j u)) Q E s) :
    OpR X f (rI C fun i j => .int (g i j)) := by
  intro pins s σ H x y v u Q I rx ry h
  obtain ⟨i, j, rfl, rfl, hc, q⟩ := h
  obtain ⟨t, rfl⟩ := rx
  obtain ⟨t', rfl⟩ := ry
  exact rule i j t t' s _ _ hc ⟨.int (g i j), H, I.tok _, ⟨_, rfl⟩, q⟩
theorem opI0 {f : Value → Value → Sem Value} {g : Int → Int → Int}
    (rule : ∀ (i j : Int) (t u : Tok) (s : Shared) (Q : Value → Shared → Prop) (E : Value → Shared → Prop), Q (.int (g i j) s.toks) { s with toks := s.toks + 1 } → wpAny (model X.prog X.w) X.A (f (.int i t) (.int j u)) Q E s) :
    OpR X f (rI0 fun i j => .int (g i j)) := by
  intro pins s σ H x y v u Q I rx ry h
  obtain ⟨i, j, rfl, rfl, q⟩ := h
  obtain ⟨t, rfl⟩ := rx
  obtain ⟨t', rfl⟩ := ry
  exact rule i j t t' s _ _ ⟨.int (g i j), H, I.tok _, ⟨_, rfl⟩, q⟩
theorem opB0 {f : Value → Value → Sem Value} {g : Int → Int → Bool}
    (rule : ∀ (i j : Int) (t u : Tok) (s : Shared) (Q : Value → Shared → Prop) (E : Value → Shared → Prop), Q (.bool (g i j)) s → wpAny (model X.prog X.w) X.A (f (.int i t) (.int j u)) Q E s) :
    OpR X f (rI0 fun i j => .bl (g i j)) := by
  intro pins s σ H x y v u Q I rx ry h
  obtain ⟨i, j, rfl, rfl, q⟩ := h
  obtain ⟨t, rfl⟩ := rx
  obtain ⟨t', rfl⟩ := ry
  exact rule i j t t' s _ _ ⟨.bl (g i j), H, I, rfl, q⟩
noncomputable def CPow (i j : Int) : Prop := 0 ≤ j ∧ j ≤ 1000000 ∧ i.natAbs < 2 ^ 64
noncomputable def CMul (i j : Int) : Prop := (-(2 ^ 64) < i ∧ i < 2 ^ 64) ∨ (-(2 ^ 64) < j ∧ j < 2 ^ 64)
theorem CMul.ok {i j : Int} (h : CMul i j) : IntMulOk i j := by
  rcases h with ⟨h1, h2⟩ | ⟨h1, h2⟩
  · exact .of_left (intBits_le_64 h1 h2)
  · exact .of_right (intBits_le_64 h1 h2)
theorem yay : OpR X (binaryOp .Add) (rI0 fun i j => .int (i + j)) := opI0 fun _ _ _ _ _ _ _ q => add_int q
theorem zbX : OpR X (binaryOp .Sub) (rI0 fun i j => .int (i - j)) := opI0 fun _ _ _ _ _ _ _ q => sub_int q
theorem yaK : OpR X (binaryOp .Mult) (rI CMul fun i j => .int (i * j)) := opI fun _ _ _ _ _ _ _ hc q => mul_int q hc.ok
theorem zat : OpR X (binaryOp .Mod) (rI (fun _ j => 0 < j) fun i j => .int (i % j)) := opI fun i j _ _ _ _ _ hc q => by
  have h1 : (0 : Int) < j := hc
  exact mod_int' (by omega) (by rw [Int.fmod_eq_emod_of_nonneg i (by omega)]; exact q)
theorem ydN : OpR X (binaryOp .Pow) (rI CPow fun i j => .int (i ^ j.toNat)) := opI fun _ _ _ _ _ _ _ hc q => pow_int_small hc.1 hc.2.1 hc.2.2 q
theorem zdj : OpR X (inplaceOp .Add) (rI0 fun i j => .int (i + j)) := opI0 fun _ _ _ _ _ _ _ q => iadd_int q
theorem zdk : OpR X (inplaceOp .Mult) (rI CMul fun i j => .int (i * j)) := opI fun _ _ _ _ _ _ _ hc q => imul_int q hc.ok
theorem unI {f : Value → Sem Value} {g : Int → Int}
    (rule : ∀ (i : Int) (t : Tok) (s : Shared) (Q : Value → Shared → Prop) (E : Value → Shared → Prop), Q (.int (g i) s.toks) { s with toks := s.toks + 1 } → wpAny (model X.prog X.w) X.A (f (.int i t)) Q E s) :
    UnR X f (rU fun i => .int (g i)) := by
  intro pins s σ H x v Q I rx h
  obtain ⟨i, rfl, q⟩ := h
  obtain ⟨t, rfl⟩ := rx
  exact rule i t s _ _ ⟨.int (g i), H, I.tok _, ⟨_, rfl⟩, q⟩
theorem zdh : UnR X (unaryOp .USub) (rU fun i => .int (-i)) := unI fun _ _ _ _ _ q => neg_int q
end
noncomputable def scal : V → V → Bool
  | .non, .non => true | .non, .int _ => true | .int _, .non => true | .non, .bl _ => true | .bl _, .non => true | .non, .str _ => true | .str _, .non => true
  | .int _, .int _ => true | .bl _, .bl _ => true | .str _, .str _ => true | .byt _, .byt _ => true
  | .int _, .str _ => true | .str _, .int _ => true | .bl _, .str _ => true | .str _, .bl _ => true
  | _, _ => false
noncomputable def rEq : R2 := fun x y H Q => scal x y = true ∧ Q (.bl (decide (x = y))) H
noncomputable def rNe : R2 := fun x y H Q => scal x y = true ∧ Q (.bl (!decide (x = y))) H
theorem yeA {i j : Int} : decide (V.int i = V.int j) = (i == j) := by
  rw [Bool.eq_iff_iff]
  simp
theorem zfm {i j : Bool} : decide (V.bl i = V.bl j) = (i == j) := by
  rw [Bool.eq_iff_iff]
  simp
theorem zes {i j : Str} : decide (V.str i = V.str j) = (i == j) := by
  rw [Bool.eq_iff_iff]
  simp
theorem zeh {i j : Array UInt8} : decide (V.byt i = V.byt j) = (i.toList == j.toList) := by
  rw [Bool.eq_iff_iff]
  cases i
  cases j
  simp
section
variable {X : Cx} {a b c : Expr} {ta tb tc : TE} {pos : Pos}
theorem yas {pins : List (Addr × Obj)} {σ : St} {H : Hp} {s : Shared} {Q : VK} {k k' : Bool} (I : Inv X pins σ H s) (q : Q (.bl k) H) (e : k = k') : EP X pins σ Q (.bool k') s := by
  subst e
  exact ⟨.bl k, H, I, rfl, q⟩
theorem zbx : OpR X (compareOp .Eq) rEq := by
  intro pins s σ H x y v u Q I rx ry h
  obtain ⟨hs, q⟩ := h
  cases x with
  | non =>
    cases rx
    cases y with
    | non => cases ry; exact PySem.EqNone.eq_none_none (yas I q (by simp))
    | bl j => cases ry; exact PySem.EqNone.eq_none_bool (yas I q (by simp))
    | int j => obtain ⟨t', rfl⟩ := ry; exact PySem.EqNone.eq_none_int (yas I q (by simp))
    | str j => obtain ⟨t', rfl⟩ := ry; exact PySem.EqNone.eq_none_str (yas I q (by simp))
    | _ => exact absurd (show false = true from hs) Bool.false_ne_true
  | bl i =>
    cases rx
    cases y with
    | non => cases ry; exact PySem.EqNone.eq_bool_none (yas I q (by simp))
    | bl j => cases ry; exact eq_bool (yas I q zfm)
    | str j => obtain ⟨t', rfl⟩ := ry; exact PySem.EqMixed.eq_bool_str (yas I q (by simp))
    | _ => exact absurd (show false = true from hs) Bool.false_ne_true
  | int i =>
    obtain ⟨t, rfl⟩ := rx
    cases y with
    | non => cases ry; exact PySem.EqNone.eq_int_none (yas I q (by simp))
    | int j => obtain ⟨t', rfl⟩ := ry; exact eq_int (yas I q yeA)
    | str j => obtain ⟨t', rfl⟩ := ry; exact PySem.EqMixed.eq_int_str (yas I q (by simp))
    | _ => exact absurd (show false = true from hs) Bool.false_ne_true
  | str i =>
    obtain ⟨t, rfl⟩ := rx
    cases y with
    | non => cases ry; exact PySem.EqNone.eq_str_none (yas I q (by simp))
    | bl j => cases ry; exact PySem.EqMixed.eq_str_bool (yas I q (by simp))
    | int j => obtain ⟨t', rfl⟩ := ry; exact PySem.EqMixed.eq_str_int (yas I q (by simp))
    | str j => obtain ⟨t', rfl⟩ := ry; exact eq_str (yas I q zes)
    | _ => exact absurd (show false = true from hs) Bool.false_ne_true
  | byt i =>
    obtain ⟨t, rfl⟩ := rx
    cases y with
    | byt j => obtain ⟨t', rfl⟩ := ry; exact PySem.W.eq_bytes (yas I q zeh)
    | _ => exact absurd (show false = true from hs) Bool.false_ne_true
  | _ => cases y <;> exact absurd (show false = true from hs) Bool.false_ne_true
theorem zcN : OpR X (compareOp .NotEq) rNe := by
  intro pins s σ H x y v u Q I rx ry h
  obtain ⟨hs, q⟩ := h
  cases x with
  | non =>
    cases rx
    cases y with
    | non => cases ry; exact PySem.EqNone.ne_none_none (yas I q (by simp))
    | bl j => cases ry; exact PySem.EqNone.ne_none_bool (yas I q (by simp))
    | int j => obtain ⟨t', rfl⟩ := ry; exact PySem.EqNone.ne_none_int (yas I q (by simp))
    | str j => obtain ⟨t', rfl⟩ := ry; exact PySem.EqNone.ne_none_str (yas I q (by simp))
    | _ => exact absurd (show false = true from hs) Bool.false_ne_true
  | bl i =>
    cases rx
    cases y with
    | non => cases ry; exact PySem.EqNone.ne_bool_none (yas I q (by simp))
    | bl j => cases ry; exact ne_bool (yas I q (congrArg not zfm))
    | str j => obtain ⟨t', rfl⟩ := ry; exact PySem.EqMixed.ne_bool_str (yas I q (by simp))
    | _ => exact absurd (show false = true from hs) Bool.false_ne_true
  | int i =>
    obtain ⟨t, rfl⟩ := rx
    cases y with
    | non => cases ry; exact PySem.EqNone.ne_int_none (yas I q (by simp))
    | int j => obtain ⟨t', rfl⟩ := ry; exact ne_int (yas I q (congrArg not yeA))
    | str j => obtain ⟨t', rfl⟩ := ry; exact PySem.EqMixed.ne_int_str (yas I q (by simp))
    | _ => exact absurd (show false = true from hs) Bool.false_ne_true
  | str i =>
    obtain ⟨t, rfl⟩ := rx
    cases y with
    | non => cases ry; exact PySem.EqNone.ne_str_none (yas I q (by simp))
    | bl j => cases ry; exact PySem.EqMixed.ne_str_bool (yas I q (by simp))
    | int j => obtain ⟨t', rfl⟩ := ry; exact PySem.EqMixed.ne_str_int (yas I q (by simp))
    | str j => obtain ⟨t', rfl⟩ := ry; exact ne_str (yas I q (congrArg not zes))
    | _ => exact absurd (show false = true from hs) Bool.false_ne_true
  | byt i =>
    obtain ⟨t, rfl⟩ := rx
    cases y with
    | byt j => obtain ⟨t', rfl⟩ := ry; exact PySem.W.ne_bytes (yas I q (congrArg not zeh))
    | _ => exact absurd (show false = true from hs) Bool.false_ne_true
  | _ => cases y <;> exact absurd (show false = true from hs) Bool.false_ne_true
theorem zdz : OpR X (compareOp .Lt) (rI0 fun i j => .bl (decide (i < j))) := opB0 fun _ _ _ _ _ _ _ q => lt_int q
theorem yd1 : OpR X (compareOp .LtE) (rI0 fun i j => .bl (decide (i ≤ j))) := opB0 fun _ _ _ _ _ _ _ q => le_int q
theorem zb1 : OpR X (compareOp .Gt) (rI0 fun i j => .bl (decide (j < i))) := opB0 fun _ _ _ _ _ _ _ q => gt_int q
theorem yga : OpR X (compareOp .GtE) (rI0 fun i j => .bl (decide (j ≤ i))) := opB0 fun _ _ _ _ _ _ _ q => ge_int q
theorem zam (b : Expr) {op : CmpOp} (h : op ≠ .In := by decide) (h2 : op ≠ .NotIn := by decide) : behindInMarks op b = false := by
  have e1 : (op == CmpOp.In) = false := by cases op <;> first | rfl | exact absurd rfl h
  have e2 : (op == CmpOp.NotIn) = false := by cases op <;> first | rfl | exact absurd rfl h2
  cases b <;> simp [behindInMarks, e1, e2]
theorem ybP {op : CmpOp} {r : R2} (ho : OpR X (compareOp op) r) (ha : PE X a ta) (hb : PE X b tb) (hm : behindInMarks op b = false) : PE X (.Compare a [op] [b] pos) (tOp r ta tb) := by
  intro pins s σ H Q I h
  exact wpAny_Compare1 (binT ha hb I h fun v u s2 x y H2 I2 rx ry q => ho pins s2 σ H2 x y v u Q I2 rx ry q) hm
noncomputable def yfL (t : TE) : TT := fun σ H Q => t σ H fun x H' => ∃ k, x = .bl k ∧ Q k H'
theorem zai {op : CmpOp} {r : R2} (ho : OpR X (compareOp op) r) (ha : PE X a ta) (hb : PE X b tb) (hm : behindInMarks op b = false) : PT X (.Compare a [op] [b] pos) (yfL (tOp r ta tb)) := by
  intro pins s σ H Q I h
  refine wpAny_isTrue_Compare1 (thn (ha pins s σ H _ I h) fun v s1 ⟨x, H1, I1, r1, q1⟩ => thn (hb pins s1 σ H1 _ I1 q1) fun u s2 ⟨y, H2, I2, r2, q2⟩ =>
    thn (ho pins s2 σ H2 x y v u _ I2 r1 r2 q2) fun c s3 ⟨z, H3, I3, r3, k, e, q3⟩ => ?_) hm
  subst e
  cases r3
  exact wpAny_truthy_bool ⟨H3, I3, q3⟩
noncomputable def yfY (r r' : R2) (ta tb tc : TE) : TE := fun σ H Q => ta σ H fun x H1 => tb σ H1 fun y H2 => r x y H2 fun z H3 => ∃ k, z = .bl k ∧
  (if k = true then tc σ H3 fun w' H4 => r' y w' H4 Q else Q (.bl false) H3)
theorem zbM {op op' : CmpOp} {r r' : R2} (ho : OpR X (compareOp op) r) (ho' : OpR X (compareOp op') r') (ha : PE X a ta) (hb : PE X b tb) (hc : PE X c tc)
    (hm : lastMarks [op, op'] [b, c] = false := by with_unfolding_all rfl) : PT X (.Compare a [op, op'] [b, c] pos) (yfL (yfY r r' ta tb tc)) := by
  intro pins s σ H Q I h
  refine isTrue_chain (thn (ha pins s σ H _ I h) fun v s1 ⟨x, H1, I1, r1, q1⟩ => test_link (thn (hb pins s1 σ H1 _ I1 q1) fun u s2 ⟨y, H2, I2, r2, q2⟩ =>
    thn (ho pins s2 σ H2 x y v u _ I2 r1 r2 q2) fun d s3 ⟨z, H3, I3, r3, k, e, q3⟩ => ?_)) hm
  subst e
  cases r3
  refine wpAny_truthy_bool ?_
  cases k with
  | false =>
    obtain ⟨k', e', q'⟩ := q3
    cases e'
    exact ite_ff ⟨H3, I3, q'⟩
  | true =>
    refine ite_tt (test_last (thn (hc pins s3 σ H3 _ I3 q3) fun w' s4 ⟨z', H4, I4, r4, q4⟩ => thn (ho' pins s4 σ H4 y z' u w' _ I4 r2 r4 q4) fun d' s5 ⟨z2, H5, I5, r5, k2, e2, q5⟩ => ?_))
    subst e2
    cases r5
    exact wpAny_truthy_bool ⟨H5, I5, q5⟩
theorem zdK : (sizeLine : Nat) < 2 ^ 63 := by rw [sizeLine_eq]; decide
theorem ycJ {x : V} {us : List Value} (r : Vals [x] us) : ∃ u, us = [u] ∧ RelV x u := by
  cases r with
  | cons r1 r2 => cases r2; exact ⟨_, rfl, r1⟩
theorem yfI {x y : V} {us : List Value} (r : Vals [x, y] us) : ∃ u w', us = [u, w'] ∧ RelV x u ∧ RelV y w' := by
  cases r with
  | cons r1 r2 =>
    cases r2 with
    | cons r3 r4 => cases r4; exact ⟨_, _, rfl, r1, r3⟩
theorem zdB : ybn X (.builtin "abs") (fun xs H Q => ∃ i, xs = [.int i] ∧ Q (.int (if i < 0 then -i else i)) H) := by
  intro pins s σ H xs us Q I r h
  obtain ⟨i, rfl, q⟩ := h
  obtain ⟨u, rfl, t, rfl⟩ := ycJ r
  exact call_abs_int fun u tk => ⟨.int (if i < 0 then -i else i), H, I.tok _, ⟨_, rfl⟩, q⟩
theorem zer (hc : X.calm = true) : ybn X (.builtin "max") (fun xs H Q => ∃ i j, xs = [.int i, .int j] ∧ Q (.int (if j > i then j else i)) H) := by
  intro pins s σ H xs us Q I r h
  obtain ⟨i, j, rfl, q⟩ := h
  obtain ⟨u, w', rfl, ⟨t, rfl⟩, ⟨t', rfl⟩⟩ := yfI r
  refine max_two_ints (I.ok.hd hc) fun h' tk k => ⟨_, H, I.kept k, ?_, q⟩
  by_cases hj : j > i
  · rw [if_pos hj, if_pos hj]; exact ⟨_, rfl⟩
  · rw [if_neg hj, if_neg hj]; exact ⟨_, rfl⟩
theorem yc4 (hc : X.calm = true) : ybn X (.builtin "min") (fun xs H Q => ∃ i j, xs = [.int i, .int j] ∧ Q (.int (if j < i then j else i)) H) := by
  intro pins s σ H xs us Q I r h
  obtain ⟨i, j, rfl, q⟩ := h
  obtain ⟨u, w', rfl, ⟨t, rfl⟩, ⟨t', rfl⟩⟩ := yfI r
  refine min_two_ints (I.ok.hd hc) fun h' tk k => ⟨_, H, I.kept k, ?_, q⟩
  by_cases hj : j < i
  · rw [if_pos hj, if_pos hj]; exact ⟨_, rfl⟩
  · rw [if_neg hj, if_neg hj]; exact ⟨_, rfl⟩
end
end L2
namespace L2
open PySem PySem.Spec PyProof.Rows
structure ObjM (h : Heap) (x dx C : Addr) (mA : Str → Option Value) : Prop where
  obj : h.get? x = some (PySem.W.instObj C dx)
  ns : h.Ns1 dx mA
  ne : dx ≠ x
section
variable {prog : Program} {w : World} {A : Around} {E : Value → Shared → Prop} {s : Shared} {K : PySem.W.Frag} {x dx C f : Addr} {mA : Str → Option Value} {name : Str} {v : Value}
end
theorem RelO.some_of {v : V} {o : Option Value} (r : RelO (some v) o) : ∃ u, o = some u ∧ RelV v u := by
  cases o with
  | none => exact (show False from r).elim
  | some u => exact ⟨u, rfl, r⟩
section
variable {P : Program} {w : World} {H H' : Hp} {h h' : Heap} {a C dx : Addr} {fs fs' : List (Str × V)}
end
structure Cls (K : PySem.W.Frag) (C : Addr) : Prop where
  pg : PySem.W.plainGet K C Str.empty = true
  hd : PySem.W.hasDictIn K C = true
  po : PySem.W.plainOver K C = true
  sa : PySem.W.findIn K (.ref C) "__setattr__" = some (some (.builtin "object.__setattr__"))
structure Con (K : PySem.W.Frag) (C : Addr) (f : Str) (v : V) (u : Value) : Prop where
  at_ : PySem.W.findIn K (.ref C) f = some (some u)
  rel : RelV v u
  get : PySem.W.specialIn K u "__get__" = some none
  cp : PySem.W.copiedNames.contains f = false
structure Meth (K : PySem.W.Frag) (C : Addr) (m : Str) (f : Addr) : Prop where
  at_ : PySem.W.findIn K (.ref C) m = some (some (.ref f))
  fn : PySem.W.isFn K (.ref f) = true
  kp : PySem.W.keepIn K (.ref f) = true
section
variable {X : Cx} {pins : List (Addr × Obj)} {σ : St} {H : Hp} {s : Shared} {a C dx : Addr} {fs : List (Str × V)} {f : Str} {v : V} {A : Around} {E : Value → Shared → Prop}
end
section
variable {X : Cx} {o e value : Expr} {f : Str} {pos pos' tpos : Pos} {ta tv : TE}
end
section
variable {X : Cx} {pins : List (Addr × Obj)} {σ : St} {H : Hp} {s : Shared} {A : Around} {E : Value → Shared → Prop} {Q : Value → Shared → Prop} {c : Value} {b : Bool}
inductive TyOf (K : PySem.W.Frag) (H : Hp) : V → Value → Prop where
  | non : TyOf K H .non (.type "NoneType")
  | bl (x : Bool) : TyOf K H (.bl x) (.type "bool")
  | int (i : Int) : TyOf K H (.int i) (.type "int")
  | str (x : Str) : TyOf K H (.str x) (.type "str")
  | flt (x : UInt64) : TyOf K H (.flt x) (.type "float")
  | lst {a : Addr} {xs : List V} (e : H a = some (.lst xs)) : TyOf K H (.ref a) (.type "list")
  | frz {a : Addr} {o : Obj} {xs : List V} (e : H a = some (.frz o (.lst xs))) : TyOf K H (.ref a) (.type "list")
  | tup {a : Addr} {xs : List V} (e : H a = some (.tup xs)) : TyOf K H (.ref a) (.type "tuple")
  | dK {a : Addr} {kvs : List (Key × V)} (e : H a = some (.dK kvs)) : TyOf K H (.ref a) (.type "dict")
  | dT {a : Addr} {kvs : List (List Key × V)} (e : H a = some (.dT kvs)) : TyOf K H (.ref a) (.type "dict")
  | ins {a C dx : Addr} {fs : List (Str × V)} (e : H a = some (.ins C dx fs)) (cl : Cls K C) (ha : PySem.W.findIn K (.ref C) "__class__" = some (some (.builtin "object.__class__")))
      (hn : PySem.W.specialIn K (.builtin "object.__class__") "__get__" = some (some (.builtin "getset_descriptor.__get__"))) (htk : PySem.W.takesIn K (.builtin "object.__class__") = some true)
      (hm : PySem.W.mroIn K C (.type "object") = some true) : TyOf K H (.ref a) (.ref C)
end
end L2
namespace L2
open PySem PySem.Spec PyProof.Rows
structure Room (k : Nat) (A : Around) : Prop where
  hd : A.handled = none
  dp : A.depth + 3 * k + 5 < recursionLimit
  un : A.units + 16 * k + 200 < cLine
  gd : A.guards = some []
theorem Room.mono {j k : Nat} {A : Around} (r : Room k A) (h : j ≤ k) : Room j A := ⟨r.hd, by have := r.dp; omega, by have := r.un; omega, r.gd⟩
theorem Room.deeper {k : Nat} {A : Around} (r : Room (k + 1) A) (env : Env) : Room k (A.deeper env) :=
  ⟨r.hd, by have := r.dp; show A.depth + 1 + 3 * k + 5 < _; omega, by have := r.un; show A.units + 3 + 16 * k + 200 < _; omega, r.gd⟩
theorem Room.depth {k : Nat} {A : Around} (r : Room k A) : A.depth < recursionLimit := by have := r.dp; omega
theorem Room.units {k : Nat} {A : Around} (r : Room k A) : A.units + 64 < cLine := by have := r.un; omega
theorem Room.units0 {k : Nat} {A : Around} (r : Room k A) : A.units < cLine := by have := r.un; omega
noncomputable def tNil : TA := fun _ H Q => Q [] H
noncomputable def zcp (ta : TE) (tr : TA) : TA := fun σ H Q => ta σ H fun x H1 => tr σ H1 fun xs H2 => Q (x :: xs) H2
section
variable {X : Cx} {e : Expr} {es : List Expr} {te : TE} {t : TA} {pos : Pos}
theorem zab : PA X [] tNil := fun _ _ _ _ H Q I h => Calls.spliced_nil ⟨[], H, I, .nil, h⟩
theorem zaa (ha : PE X e te) (hr : PA X es t) (hs : starEach (e :: es) X.env = (false, eval e X.env) :: starEach es X.env := by rfl) : PA X (e :: es) (zcp te t) := by
  intro pos pins s σ H Q I h
  rw [hs]
  show wpAny _ _ (spliced ((false, eval e X.env) :: backTo pos (starEach es X.env))) _ _ s
  refine Calls.spliced_cons (thn (ha pins s σ H _ I h) fun u s1 ⟨x, H1, I1, r1, q1⟩ => ?_)
  exact thn (hr pos pins s1 σ H1 _ I1 q1) fun us s2 ⟨xs, H2, I2, r2, q2⟩ => ⟨x :: xs, H2, I2, .cons r1 r2, q2⟩
noncomputable def tTup (t : TA) : TE := fun σ H Q => t σ H fun xs H1 => xs.length ≤ sizeLine ∧ ∀ p, H1 p = none → Q (.ref p) (upd H1 p (.tup xs))
noncomputable def tLst (t : TA) : TE := fun σ H Q => t σ H fun xs H1 => xs.length ≤ sizeLine ∧ ∀ p, H1 p = none → Q (.ref p) (upd H1 p (.lst xs))
theorem ybb {x1} (h : PA X es t) : PE X (.Tuple es x1 pos) (tTup t) := by
  intro pins s σ H Q I hq
  refine wpAny_Tuple_spliced (thn (h pos pins s σ H _ I hq) fun us s1 ⟨xs, H1, I1, r, z, q⟩ => ⟨by rw [← r.length]; exact z, ?_⟩)
  have hf : H1 s1.heap.objs.size = none := I1.hok.fresh (Nat.le_refl _)
  refine ⟨.ref s1.heap.objs.size, upd H1 s1.heap.objs.size (.tup xs), I1.laid (t' := s1.toks) (fun b u e => Heap.get?_push_of_some _ e) (Nat.le_refl _) ?_, rfl, q _ hf⟩
  exact ⟨z, us, r, ⟨_, Heap.get?_push_size _ rfl, rfl, _, rfl⟩⟩
theorem zaR (h : PA X es t) : PE X (.List es pos) (tLst t) := by
  intro pins s σ H Q I hq
  refine wpAny_List_spliced (thn (h pos pins s σ H _ I hq) fun us s1 ⟨xs, H1, I1, r, z, q⟩ => ⟨by rw [← r.length]; exact z, ?_⟩)
  have hf : H1 s1.heap.objs.size = none := I1.hok.fresh (Nat.le_refl _)
  refine ⟨.ref s1.heap.objs.size, upd H1 s1.heap.objs.size (.lst xs), I1.laid (t' := s1.toks) (fun b u e => Heap.get?_push_of_some _ e) (Nat.le_refl _) ?_, rfl, q _ hf⟩
  exact ⟨z, us, 0, r, Heap.get?_push_size _ rfl⟩
end
noncomputable abbrev Sp := List V → Hp → VK → XK → Prop
noncomputable abbrev CXT := List Env → Hp → Shared → XK → Value → Shared → Prop
structure Env0 (P : Program) (w : World) (K : PySem.W.Frag) (mg : Str → Option Value) (base : Heap) (A : Around) (outer : List Env) (s : Shared) (H : Hp) : Prop where
  frames : A.frames = some outer
  mod : Mod K mg base
  bs : ∀ b o, base.get? b = some o → s.heap.get? b = some o ∧ H b = none
  bsz : base.objs.size ≤ s.heap.objs.size
  funs : s.heap.FunFrames base outer
  frf : ∀ b ∈ frs outer, H b = none
  hok : HOk P w H s.heap
  bare : AllBare s.gens
noncomputable def CE (outer : List Env) (P : Program) (w : World) (H : Hp) (s : Shared) (Q : VK) (u : Value) (s' : Shared) : Prop :=
  ∃ v H', s'.os = s.os ∧ AllBare s'.gens ∧ Un (frs outer) [] H H' s.heap s'.heap ∧ HOk P w H' s'.heap ∧ RelV v u ∧ Q v H'
noncomputable def CR (CX : CXT) (outer : List Env) (P : Program) (w : World) (H : Hp) (s : Shared) (Q : VK) (E : XK) (r : Result) (s' : Shared) : Prop :=
  match r with
  | .ok (.ret u) => CE outer P w H s Q u s'
  | .ok _ => False
  | .error e => CX outer H s E e s'
structure FnOk (P : Program) (w : World) (K : PySem.W.Frag) (mg : Str → Option Value) (base : Heap) (CX : CXT) (k : Nat) (f : Addr) (fd : FuncData) (ps : List Str) (sp : Sp) : Prop where
  len : ∀ vs H Q E, sp vs H Q E → vs.length = ps.length
  run : ∀ (A : Around) (outer : List Env) (s : Shared) (H : Hp) (args : Args) (us : List Value) (vs : List V) (Q : VK) (E : XK), Room k A → Env0 P w K mg base A outer s H → BindsTo s fd args (ps.zip us) → Vals vs us → sp vs H Q E →
    codeAny (model P w) A (.call (.ref f) args) (CR CX outer P w H s Q E) s
section
variable {X : Cx} {pins : List (Addr × Obj)} {σ : St} {H : Hp} {s s' : Shared}
theorem Inv.env0 (I : Inv X pins σ H s) : Env0 X.prog X.w X.K X.mg X.base X.A X.stack s H :=
  ⟨I.ok.frames, I.ok.mod, I.bs, Nat.le_trans I.ok.bsz I.sz, I.stack, I.stkFree, I.hok, I.bare⟩
theorem Inv.after {Q : VK} {u : Value} (I : Inv X pins σ H s) (h : CE X.stack X.prog X.w H s Q u s') : EP X pins σ Q u s' := by
  obtain ⟨v, H', os, bare, un, hok, r, q⟩ := h
  obtain ⟨hh, g, d, t, os'⟩ := s'
  obtain rfl : os' = s.os := os
  exact ⟨v, H', I.call (h' := hh) (g' := g) (d' := d) (t' := t) (ch := []) un hok bare (fun b z => absurd z (by simp)), r, q⟩
end
noncomputable def zfC (sp : Sp) (dvs : List V) (E : XK) (t : TA) : TE := fun σ H Q => t σ H fun vs H1 => sp (vs ++ dvs) H1 Q E
noncomputable def zdS (K : PySem.W.Frag) (fd : FuncData) (ps : List Str) (ds : List Value) : Prop :=
  ∀ (s : Shared) (us : List Value), K.In s.heap → (us ++ ds).length = ps.length → BindsTo s fd ⟨us, []⟩ (ps.zip (us ++ ds))
theorem zdS.all {K : PySem.W.Frag} {fd : FuncData} {ps : List Str} (h : ∀ us : List Value, us.length = ps.length → bindArgs fd ⟨us, []⟩ = pure (ps.zip us)) : zdS K fd ps [] := fun s us _ hl => by
  rw [List.append_nil] at hl ⊢
  exact .of_eq (h us hl)
noncomputable def zej (CX : CXT) (X : Cx) (E : XK) : Prop := ∀ (pins : List (Addr × Obj)) (σ : St) (H : Hp) (s : Shared) (e : Value) (s' : Shared), Inv X pins σ H s → CX X.stack H s E e s' → X.xe e s'
section
variable {X : Cx} {CX : CXT} {k : Nat} {f C : Addr} {fd : FuncData} {ps : List Str} {sp : Sp} {dvs : List V} {ds : List Value} {E : XK} {x m : Str} {p pos apos : Pos} {e o : Expr} {es : List Expr} {ta : TE} {t : TA}
theorem yfV {pins : List (Addr × Obj)} {σ : St} {H : Hp} {s : Shared} {Q : VK} {us : List Value} {vs : List V} (F : FnOk X.prog X.w X.K X.mg X.base CX k f fd ps sp) (hr : Room k X.A) (hb : zdS X.K fd ps ds) (hd : Vals dvs ds) (hx : zej CX X E)
    (I : Inv X pins σ H s) (r : Vals vs us) (h : sp (vs ++ dvs) H Q E) : wpAny (model X.prog X.w) X.A (call (.ref f) us) (EP X pins σ Q) X.xe s := by
  have r2 : Vals (vs ++ dvs) (us ++ ds) := r.append hd
  have hl : (us ++ ds).length = ps.length := by rw [← r2.length]; exact F.len _ _ _ _ h
  refine wpAny_call (codeAny_mono (F.run X.A X.stack s H ⟨us, []⟩ (us ++ ds) (vs ++ dvs) Q E hr I.env0 (hb s us I.kIn hl) r2 h) fun r s' hq => ?_)
  cases r with
  | error e => exact hx pins σ H s e s' I hq
  | ok fl =>
    cases fl with
    | ret u => exact I.after hq
    | next => exact False.elim hq
    | brk => exact False.elim hq
    | cont => exact False.elim hq
theorem yfp (F : FnOk X.prog X.w X.K X.mg X.base CX k f fd ps sp) (hr : Room k X.A) (hg : Gl X x) (hm : X.mg x = some (.ref f)) (hk : PySem.W.keepIn X.K (.ref f) = true) (hb : zdS X.K fd ps ds) (hd : Vals dvs ds) (hx : zej CX X E)
    (ha : PA X (e :: es) t) (hdb : (x == ("__debug__" : Str)) = false := by decide) (he : starEach (e :: es) X.env = (false, eval e X.env) :: starEach es X.env := by rfl) (hpl : (backTo pos (starEach es X.env)).any (·.1) = false := by rfl) :
    PE X (.Call (.Name x p) (e :: es) [] pos) (zfC sp dvs E t) := by
  intro pins s σ H Q I h
  refine wpAny_Call_Name_kw (zeR I hg hm ?_ hdb)
  refine PySem.W.callWith_K (h₀ := X.base) I.ok.mod.kin hk (thn (ha pos pins s σ H _ I h) fun us s1 ⟨vs, H1, I1, r, q⟩ => ⟨I1.kIn, ?_⟩) he hpl
  exact yfV F hr hb hd hx I1 r q
structure Mk (K : PySem.W.Frag) (C f : Addr) : Prop where
  makes : PySem.W.makesIn K C = true
  init : PySem.W.findIn K (.ref C) "__init__" = some (some (.ref f))
  fn : PySem.W.isFn K (.ref f) = true
  kp : PySem.W.keepIn K (.ref C) = true
end
section
variable {X : Cx} {CX : CXT} {k : Nat} {f C : Addr} {fd : FuncData} {ps ks : List Str} {sp : Sp} {E : XK} {x m : Str} {p pos apos kpos : Pos} {e o : Expr} {es : List Expr} {kws : List Keyword} {te ta : TE} {t tk : TA} {nm : Option Str}
structure KBinds (K : PySem.W.Frag) (fd : FuncData) (ps ks : List Str) (g : List Value → List Value → List Value) (gV : List V → List V → List V) : Prop where
  to : ∀ (s : Shared) (us ws : List Value), K.In s.heap → (g us ws).length = ps.length → BindsTo s fd ⟨us, ks.zip ws⟩ (ps.zip (g us ws))
  rel : ∀ {vs : List V} {us : List Value} {zs : List V} {ws : List Value}, Vals vs us → Vals zs ws → Vals (gV vs zs) (g us ws)
variable {g : List Value → List Value → List Value} {gV : List V → List V → List V}
end
structure yaj (N P : List Str) (sc : Scope) : Prop where
  kind : sc.kind = .function
  co : sc.isCoroutine = false
  gen : sc.isGenerator = false
  nd : N.Nodup
  pre : N.take P.length = P
  par : ∀ x ∈ P, sc.names.lookup x = some .local ∨ sc.names.lookup x = some .cell
  nofree : ∀ y ∈ sc.names, y.2 ≠ .free
theorem zcZ {kindOf : Str → Option NameKind} {x : Str} : ∀ {binds : List (Str × Value)} {m : Str → Option Value}, (∀ v, (x, v) ∉ binds) → bindL kindOf binds m x = m x
  | [], _, _ => rfl
  | (n, v) :: r, m, h => by
    unfold bindL
    rw [zcZ fun w hw => h w (List.mem_cons_of_mem _ hw)]
    split
    · have : x ≠ n := by rintro rfl; exact h v List.mem_cons_self
      simp [this]
    · rfl
theorem yda {kindOf : Str → Option NameKind} {x : Str} : ∀ {binds : List (Str × Value)} {m : Str → Option Value}, (∀ v, (x, v) ∉ binds) → bindC kindOf binds m x = m x
  | [], _, _ => rfl
  | (n, v) :: r, m, h => by
    unfold bindC
    rw [yda fun w hw => h w (List.mem_cons_of_mem _ hw)]
    split
    · rfl
    · have : x ≠ n := by rintro rfl; exact h v List.mem_cons_self
      simp [this]
theorem zda {kindOf : Str → Option NameKind} {x : Str} {v : Value} : ∀ {P : List Str} {vs : List Value} {i : Nat} {m : Str → Option Value}, P.Nodup → P[i]? = some x → vs[i]? = some v → kindOf x = some .local →
    bindL kindOf (P.zip vs) m x = some v
  | [], _, _, _, _, h, _, _ => by simp at h
  | _ :: _, [], _, _, _, _, h, _ => by simp at h
  | p :: P, w :: vs, 0, m, nd, h1, h2, hk => by
    simp at h1 h2; subst h1; subst h2
    show bindL kindOf ((p, w) :: P.zip vs) m p = _
    unfold bindL
    rw [zcZ fun v hv => (List.nodup_cons.mp nd).1 (List.of_mem_zip hv).1, if_pos hk]
    simp
  | p :: P, w :: vs, i + 1, m, nd, h1, h2, hk => by
    show bindL kindOf ((p, w) :: P.zip vs) m x = _
    unfold bindL
    exact zda (i := i) (List.nodup_cons.mp nd).2 (by simpa using h1) (by simpa using h2) hk
theorem yc0 {kindOf : Str → Option NameKind} {x : Str} {v : Value} : ∀ {P : List Str} {vs : List Value} {i : Nat} {m : Str → Option Value}, P.Nodup → P[i]? = some x → vs[i]? = some v → kindOf x ≠ some .local →
    bindC kindOf (P.zip vs) m x = some v
  | [], _, _, _, _, h, _, _ => by simp at h
  | _ :: _, [], _, _, _, _, h, _ => by simp at h
  | p :: P, w :: vs, 0, m, nd, h1, h2, hk => by
    simp at h1 h2; subst h1; subst h2
    show bindC kindOf ((p, w) :: P.zip vs) m p = _
    unfold bindC
    rw [yda fun v hv => (List.nodup_cons.mp nd).1 (List.of_mem_zip hv).1, if_neg hk]
    simp
  | p :: P, w :: vs, i + 1, m, nd, h1, h2, hk => by
    show bindC kindOf ((p, w) :: P.zip vs) m x = _
    unfold bindC
    exact yc0 (i := i) (List.nodup_cons.mp nd).2 (by simpa using h1) (by simpa using h2) hk
noncomputable def yc7 (N : List Str) (vs : List V) : St := vs.map some ++ List.replicate (N.length - vs.length) none
noncomputable def cxOf (CX : CXT) (P : Program) (w : World) (K : PySem.W.Frag) (mg : Str → Option Value) (base : Heap) (N : List Str) (qual : Str) (scope : Scope) (f : Addr) (cd : Value) (A : Around) (outer : List Env) (s : Shared) (H : Hp) (E : XK) : Cx where
  prog := P
  w := w
  K := K
  mg := mg
  base := base
  A := A.deeper (envOfC qual scope s.heap.objs.size f cd)
  N := N
  s₀ := s
  H₀ := H
  env := envOfC qual scope s.heap.objs.size f cd
  outer := outer
  stack := envOfC qual scope s.heap.objs.size f cd :: outer
  ex := []
  calm := true
  fn := fun _ => true
  pn := []
  xe := fun e s' => wpAny (model P w) (A.deeper (envOfC qual scope s.heap.objs.size f cd)) (leaving (envOfC qual scope s.heap.objs.size f cd) e) (fun _ s'' => CX outer H s E e s'') (fun e' s'' => CX outer H s E e' s'') s'
theorem ydC {sc : Scope} {n : Nat} {x : Str} (h : sc.names.lookup x = some .cell) : ∃ c, (cellsFrom n sc.names []).lookup x = some c := by
  have q := PySem.W.cellsFrom_some sc.names n [] (.inl h)
  exact Option.isSome_iff_exists.mp q
theorem zeu {CX : CXT} {P : Program} {w : World} {K : PySem.W.Frag} {mg : Str → Option Value} {base : Heap} {N ps : List Str} {qual : Str} {scope : Scope} {f : Addr} {cd : Value} {A : Around} {outer : List Env} {s s1 : Shared} {H : Hp} {E : XK} {us : List Value} {vs : List V}
    (S : yaj N ps scope) (hd : A.handled = none) (e0 : Env0 P w K mg base A outer s H) (hl : vs.length = ps.length) (r : Vals vs us)
    (x : InCallC s s.heap.objs.size (bindL (envOfC qual scope s.heap.objs.size f cd).kindOf (ps.zip us) fun _ => none) (cellsFrom (s.heap.objs.size + 1) scope.names []) (bindC (envOfC qual scope s.heap.objs.size f cd).kindOf (ps.zip us) fun _ => none) s1) :
    Inv (cxOf CX P w K mg base N qual scope f cd A outer s H E) [] (yc7 N vs) H s1 := by
  have hpl : ps.length ≤ N.length := by have := congrArg List.length S.pre; rw [List.length_take] at this; omega
  obtain ⟨h1, tk, rfl, hk⟩ := x.done
  have noA : ∀ b : Addr, b ∉ (cxOf CX P w K mg base N qual scope f cd A outer s H E).ex := fun b z => absurd (show b ∈ ([] : List Addr) from z) (by simp)
  refine ⟨⟨e0.mod, S.kind, rfl, rfl, Nat.le_refl _, fun y z c h1 h2 => ?_, fun y hy => ?_, fun y c _ h => ?_, fun _ => hd, Around.frames_deeper e0.frames, .inr ⟨rfl, rfl⟩, fun b z => absurd z (noA b), e0.bs, e0.bsz, fun b _ _ => noA b, fun b z => absurd z (noA b), e0.funs, e0.frf⟩,
    rfl, e0.bare, Un.kept hk, ⟨_, x.toInCall.ns, fun i y v h1 h2 h3 => ?_⟩, fun y c h => ⟨_, x.cell y c h⟩, e0.hok.fresh (Nat.le_refl _), fun y c h => ?_, fun p hp => absurd (show p ∈ ([] : List (Addr × Obj)) from hp) (by simp), e0.hok.kept hk, ?_⟩
  · exact name_of_addr x.apart (PySem.mem_of_lookup h1) (PySem.mem_of_lookup h2)
  · have hy : scope.names.lookup y = some .cell ∨ scope.names.lookup y = some .free := hy
    rcases hy with hy | hy
    · exact ydC hy
    · exact absurd rfl (S.nofree _ (PySem.mem_of_lookup hy))
  · exact Nat.le_of_lt (x.above y c (PySem.mem_of_lookup h))
  · have hi : i < vs.length := by
      unfold yc7 at h2
      by_cases hi : i < vs.length
      · exact hi
      · rw [List.getElem?_append_right (by simpa using hi)] at h2
        rw [List.getElem?_replicate] at h2
        split at h2 <;> cases h2
    have ha : vs[i]? = some v := by
      unfold yc7 at h2
      rw [List.getElem?_append_left (by simpa using hi), List.getElem?_map] at h2
      cases e : vs[i]? with
      | none => rw [e] at h2; cases h2
      | some a => rw [e] at h2; cases h2; rfl
    obtain ⟨u, hu, rv⟩ := r.get ha
    have hp : ps[i]? = some y := by
      rw [← S.pre, List.getElem?_take_of_lt (by omega)]; exact h1
    have ndP : ps.Nodup := by rw [← S.pre]; exact S.nd.sublist (List.take_sublist _ _)
    refine ⟨u, rv, ?_⟩
    rcases S.par y (List.mem_of_getElem? hp) with k | k
    · exact .inl ⟨k, zda ndP hp hu k⟩
    · obtain ⟨c, e⟩ := ydC (n := s.heap.objs.size + 1) k
      refine .inr ⟨.inl k, c, e, ?_⟩
      have q := x.cell y c e
      rw [yc0 ndP hp hu (by show scope.names.lookup y ≠ _; rw [k]; decide)] at q
      exact q
  · exact e0.hok.fresh (Nat.le_of_lt (x.above y c (PySem.mem_of_lookup h)))
  · unfold yc7
    show _ = N.length
    rw [List.length_append, List.length_map, List.length_replicate]
    omega
theorem zgf {CX : CXT} {P : Program} {w : World} {K : PySem.W.Frag} {mg : Str → Option Value} {base : Heap} {k : Nat} {f : Addr} {name qual : Str} {params : Arguments} {body : List Stmt} {scope : Scope} {dV kV doc pm cdv ct oc : Value} {an od : Option Addr}
    {osl : Array (Option Value)} {N ps : List Str} {sp : Sp} (lk : K.lookup f = some ⟨oc, od, .func (PySem.W.fnOf name qual params body scope dV kV doc pm an cdv ct), osl⟩) (hcd : PySem.W.codeIn K cdv qual = true) (S : yaj N ps scope)
    (len : ∀ vs H Q E, sp vs H Q E → vs.length = ps.length)
    (hbody : ∀ (A : Around) (outer : List Env) (s : Shared) (H : Hp) (vs : List V) (Q : VK) (E : XK), Room k (A.deeper (envOfC qual scope s.heap.objs.size f cdv)) → sp vs H Q E →
      ∃ t, PSs (cxOf CX P w K mg base N qual scope f cdv A outer s H E) body t ∧ t { nx := fun _ H' => Q .non H', rt := Q } (yc7 N vs) H) :
    FnOk P w K mg base CX (k + 1) f (PySem.W.fnOf name qual params body scope dV kV doc pm an cdv ct) ps sp := by
  refine ⟨len, fun A outer s H args us vs Q E hr e0 hb r hsp => ?_⟩
  have hl := len _ _ _ _ hsp
  have KX : K.In s.heap := e0.mod.kin.keeps fun b o e => (e0.bs b o e).1
  have lim : s.heap.NoLimit := e0.mod.nolimit.keeps fun b o e => (e0.bs b o e).1
  have hkind : ∀ y ∈ ps.zip us, scope.names.lookup y.1 = some .local ∨ (scope.names.lookup y.1 = some .cell ∧ ((cellsFrom (s.heap.objs.size + 1) scope.names []).lookup y.1).isSome = true) := fun ⟨n, v⟩ hy => by
    rcases S.par n (List.of_mem_zip hy).1 with q | q
    · exact .inl q
    · exact .inr ⟨q, PySem.W.cellsFrom_some _ _ _ (.inl q)⟩
  refine codeAny_call_function hr.depth (KX _ _ lk) rfl S.co S.gen rfl (PySem.W.codeRec_of KX hcd) (hb _ _ _ _ ?_)
  refine wpAny_newFunctionEnv_cells S.kind hkind fun env he s1 x => ?_
  subst he
  refine ⟨lim.keeps x.toInCall.keep, codeAny_func ?_⟩
  obtain ⟨t, ht, hq⟩ := hbody A outer s H vs Q E (hr.deeper _) hsp
  have I : Inv (cxOf CX P w K mg base N qual scope f cdv A outer s H E) [] (yc7 N vs) H s1 := zeu S hr.hd e0 hl r x
  refine wpAny_mono (ht [] s1 (yc7 N vs) H _ I hq) (fun fl s' hs => ?_) fun e s' hs => hs
  have fin : ∀ {σ' : St} {H' : Hp} {v : V} {u : Value}, Inv (cxOf CX P w K mg base N qual scope f cdv A outer s H E) [] σ' H' s' → RelV v u → Q v H' → CE outer P w H s Q u s' :=
    fun {σ' H' v u} J rv q => ⟨v, H', J.os, J.bare, J.base, J.hok, rv, q⟩
  cases fl with
  | ret u =>
    obtain ⟨v, σ', H', J, rv, q⟩ := hs
    exact fin J rv q
  | next =>
    obtain ⟨σ', H', J, q⟩ := hs
    exact fin (v := V.non) (u := Value.none) J rfl q
  | brk =>
    obtain ⟨_, _, _, q⟩ := hs
    exact False.elim q
  | cont =>
    obtain ⟨_, _, _, q⟩ := hs
    exact False.elim q
end L2
namespace L2
open PySem PySem.Spec PyProof.Rows
section
variable {X : Cx} {x : Str} {p pos : Pos} {e : Expr} {es : List Expr} {t : TA} {id T : String} {r : List V → Hp → VK → Prop}
noncomputable def tCB (r : List V → Hp → VK → Prop) (t : TA) : TE := fun σ H Q => t σ H fun vs H1 => r vs H1 Q
theorem yai (hc : ybn X (.builtin id) r) (hg : Gl X x) (hm : X.mg x = none) (hv : bootBuiltins x = some (.builtin id)) (ha : PA X (e :: es) t) (hn : x ≠ "__name__" := by decide) (hdb : (x == ("__debug__" : Str)) = false := by decide)
    (he : starEach (e :: es) X.env = (false, eval e X.env) :: starEach es X.env := by rfl) (hpl : (backTo pos (starEach es X.env)).any (·.1) = false := by rfl) : PE X (.Call (.Name x p) (e :: es) [] pos) (tCB r t) := by
  intro pins s σ H Q I h
  refine wpAny_Call_Name_kw (ybq I hg hm hv ?_ hn hdb)
  exact PyProof.Rows.callWith_builtin1 (thn (ha pos pins s σ H _ I h) fun us s1 ⟨vs, H1, I1, r1, q1⟩ => hc pins s1 σ H1 vs us Q I1 r1 q1) he hpl
theorem zaY (hc : ybn X (.type T) r) (hg : Gl X x) (hm : X.mg x = none) (hv : bootBuiltins x = some (.type T)) (ha : PA X (e :: es) t) (hn : x ≠ "__name__" := by decide) (hdb : (x == ("__debug__" : Str)) = false := by decide)
    (he : starEach (e :: es) X.env = (false, eval e X.env) :: starEach es X.env := by rfl) (hpl : (backTo pos (starEach es X.env)).any (·.1) = false := by rfl) : PE X (.Call (.Name x p) (e :: es) [] pos) (tCB r t) := by
  intro pins s σ H Q I h
  refine wpAny_Call_Name_kw (ybq I hg hm hv ?_ hn hdb)
  exact PyProof.Rows.callWith_type1 (thn (ha pos pins s σ H _ I h) fun us s1 ⟨vs, H1, I1, r1, q1⟩ => hc pins s1 σ H1 vs us Q I1 r1 q1) he hpl
end
end L2
namespace HT
open PySem PyProof.Rows
section
open PySem.SeqAt
open PySem.AutoSeq1 (wpAny_loadPart')
open PySem.MeetsSeq PySem.MeetsSeq2 PySem.MeetsSeq3
end
section
variable {prog : Program} {w : World} {A : Around} {E : Value → Shared → Prop} {s : Shared}
theorem cat_tup {t b : Addr} {vs ws : List Value} {Q : Value → Shared → Prop} (ht : IsTup s.heap t vs.toArray) (hb : IsTup s.heap b ws.toArray) (hv : vs ≠ [])
    (h1 : ws = [] → Q (.ref t) s) (h2 : ws ≠ [] → Q (.ref s.heap.objs.size) { s with heap := s.heap.push { cls := .type "tuple", data := .seq (vs ++ ws).toArray } })
    (hsz : vs.length + ws.length ≤ sizeLine) : wpAny (model prog w) A (binaryOp .Add (.ref t) (.ref b)) Q E s := by
  obtain ⟨⟨cls, dd, data, sl⟩, ho, hc, n, hd⟩ := id ht
  obtain ⟨⟨cls2, dd2, data2, sl2⟩, ho2, hc2, n2, hd2⟩ := id hb
  simp only at hc hd hc2 hd2
  subst hc hd hc2 hd2
  have e : vs.toArray ++ ws.toArray = (vs ++ ws).toArray := by simp
  by_cases hw : ws = []
  · exact concat_meets ⟨_, ho, rfl⟩ ⟨_, ho2, rfl⟩ noFill_tuple_add seq_tuple_add PySem.F.slot_tuple_add PySem.F.entry_tuple_add (PySem.F.args_tuple_add_2 _ _)
      (tuple_addW1 t b vs.toArray ws.toArray n n2 dd dd2 sl sl2 (by simpa using hv) (by simp [hw])) ⟨ho, ho2, h1 hw⟩
  · refine concat_meets ⟨_, ho, rfl⟩ ⟨_, ho2, rfl⟩ noFill_tuple_add seq_tuple_add PySem.F.slot_tuple_add PySem.F.entry_tuple_add (PySem.F.args_tuple_add_2 _ _)
      (tuple_addW2 t b vs.toArray ws.toArray n n2 dd dd2 sl sl2 (by simpa using hv) (by simpa using hw) (by rw [List.size_toArray, List.size_toArray]; exact hsz)) ⟨ho, ho2, ?_⟩
    rw [e]
    exact h2 hw
noncomputable def sIx (n d : Nat) : Option Int → Nat
  | none => d
  | some v => if v < 0 then (v + (n : Int)).toNat else min v.toNat n
theorem sIx_none (n d : Nat) : sIx n d none = d := rfl
theorem sIx_nat (n d k : Nat) : sIx n d (some (k : Int)) = min k n := by
  show (if (k : Int) < 0 then ((k : Int) + (n : Int)).toNat else min (k : Int).toNat n) = min k n
  rw [if_neg (by omega), Int.toNat_natCast]
theorem yf0 (n d : Nat) (hd : d ≤ n) (o : Option Int) : sIx n d o ≤ n := by
  cases o with
  | none => exact hd
  | some v =>
    show (if v < 0 then (v + (n : Int)).toNat else min v.toNat n) ≤ n
    by_cases hv : v < 0
    · rw [if_pos hv]; omega
    · rw [if_neg hv]; exact Nat.min_le_right _ _
theorem zey (v : Int) (n d : Nat) : (if v < 0 then max (v + (n : Int)) 0 else min v (n : Int)) = ((sIx n d (some v) : Nat) : Int) := by
  show (if v < 0 then max (v + (n : Int)) 0 else min v (n : Int)) = (((if v < 0 then (v + (n : Int)).toNat else min v.toNat n) : Nat) : Int)
  by_cases hv : v < 0
  · simp only [if_pos hv]; omega
  · simp only [if_neg hv]; omega
theorem zdT (lo hi : Option Int) (n : Nat) : Builtin.Slice.sliceAdjust lo hi 1 (n : Int) = (((sIx n 0 lo : Nat) : Int), ((sIx n n hi : Nat) : Int)) := by
  have h1 : ¬ ((1 : Int) < 0) := by omega
  unfold Builtin.Slice.sliceAdjust
  simp only [h1, if_false]
  refine Prod.ext ?_ ?_
  · cases lo with
    | none => rfl
    | some v => exact zey v n 0
  · cases hi with
    | none => rfl
    | some v => exact zey v n n
theorem yd3 (i j : Nat) : Builtin.Slice.slicePlaces (i : Int) (j : Int) 1 = j - i := by
  unfold Builtin.Slice.slicePlaces
  have h1 : (1 : Int) > 0 := by omega
  simp only [h1, if_true, Int.ediv_one]
  split <;> omega
theorem ycs {v : Value} {o : Option Int} {Q : Option Int → Shared → Prop} (p : IsPart v o) (h : Q o s) : wpAny (model prog w) A (Builtin.Slice.slicePartIndex v) Q E s := by
  cases p with
  | none => exact slicePart_none h
  | int i t => exact slicePart_int h
theorem ybp {sl : Addr} {vl vu : Value} {lo hi : Option Int} {n : Nat} {Q : Int × Int × Nat → Shared → Prop} (hs : s.heap.IsSliceOf sl vl vu .none) (pl : IsPart vl lo) (pu : IsPart vu hi)
    (h : Q (((sIx n 0 lo : Nat) : Int), 1, sIx n n hi - sIx n 0 lo) s) : wpAny (model prog w) A (Builtin.Slice.sliceApplied (.ref sl) (pure (n : Int))) Q E s := by
  obtain ⟨os, hos, hcs, hds⟩ := id hs
  unfold Builtin.Slice.sliceApplied Builtin.Slice.sliceFields
  refine wpAny_bind (wpAny_bind (wpAny_field hos hds (x := vl) rfl (wpAny_bind (wpAny_field hos hds (x := vu) rfl (wpAny_bind (wpAny_field hos hds (x := .none) rfl (wpAny_pure ?_)))))))
  refine wpAny_bind (slicePart_none ?_)
  show wpAny _ _ (if ((1 : Int) == 0) = true then _ else _) _ _ s
  rw [if_neg (by decide)]
  refine wpAny_bind (ycs pl (wpAny_bind (ycs pu (wpAny_bind (wpAny_pure ?_)))))
  show wpAny _ _ (match Builtin.Slice.sliceAdjust lo hi 1 (n : Int) with | (lo, hi) => pure (lo, (1 : Int), Builtin.Slice.slicePlaces lo hi 1)) _ _ s
  rw [zdT lo hi n]
  show wpAny _ _ (pure (((sIx n 0 lo : Nat) : Int), (1 : Int), Builtin.Slice.slicePlaces ((sIx n 0 lo : Nat) : Int) ((sIx n n hi : Nat) : Int) 1)) _ _ s
  rw [yd3]
  exact wpAny_pure h
theorem zfb (xs : Array Value) (i k : Nat) : ((List.range k).filterMap fun (m : Nat) => xs[((i : Int) + (m : Int) * 1).toNat]?).toArray = ((xs.toList.drop i).take k).toArray := by
  have e : (fun (m : Nat) => xs[((i : Int) + (m : Int) * 1).toNat]?) = fun m => xs[i + m]? := by
    funext m
    have : ((i : Int) + (m : Int) * 1).toNat = i + m := by omega
    rw [this]
  rw [e]
  have := pick_run xs i k
  rw [List.filterMap_map] at this
  have e2 : ((fun x => xs[x]?) ∘ fun x => i + x) = fun m => xs[i + m]? := rfl
  rw [e2] at this
  rw [this]
theorem getItem_tuple_cut {t sl : Addr} {items : Array Value} {vl vu : Value} {lo hi : Option Int} {Q : Value → Shared → Prop} (ht : IsTup s.heap t items) (hs : s.heap.IsSliceOf sl vl vu .none) (pl : IsPart vl lo) (pu : IsPart vu hi)
    (hw : ¬ (sIx items.size 0 lo = 0 ∧ sIx items.size items.size hi = items.size))
    (h : Q (.ref s.heap.objs.size) { s with heap := s.heap.push { cls := .type "tuple", data := .seq ((items.toList.drop (sIx items.size 0 lo)).take (sIx items.size items.size hi - sIx items.size 0 lo)).toArray } })
    (hsz : items.size ≤ sizeLine) : wpAny (model prog w) A (getItem (.ref t) (.ref sl)) Q E s := by
  have htake : sizeOk (.seq ((items.toList.drop (sIx items.size 0 lo)).take (sIx items.size items.size hi - sIx items.size 0 lo)).toArray) := by
    show ((items.toList.drop (sIx items.size 0 lo)).take (sIx items.size items.size hi - sIx items.size 0 lo)).toArray.size ≤ sizeLine
    rw [List.size_toArray, List.length_take, List.length_drop, Array.length_toList]
    omega
  have hj : sIx items.size items.size hi ≤ items.size := yf0 _ _ (Nat.le_refl _) hi
  obtain ⟨os, hos, hcs, hds⟩ := id hs
  have hTs : s.TypeIs (.ref sl) "slice" := ⟨os, hos, hcs⟩
  unfold getItem
  try with_reducible refine wpAny_holding ?_
  first | refine wpAny_bind (wpAny_pure ?_) | skip
  refine wpAny_bind (wpAny_sequenceKey ht.typeIs (by decide) ?_)
  refine wpAny_bind (wpAny_callSpecial?_slot (name := Str.ofString "__getitem__") ht.typeIs PyProof.Rows.slot_tuple_getitem
    (wpAny_call_entry PyProof.Rows.slot_tuple_getitem ht.typeIs entry_tuple_getitem ?_ (args_tuple_getitem _ _)))
  show wpAny _ _ (Builtin.Tuple.tupleItemsOf (.ref t) >>= _) _ _ s
  refine wpAny_bind (tupleItemsOf_ ht ?_)
  refine wpAny_bind (wpAny_typeOf hTs ?_)
  rw [if_pos (by decide)]
  refine wpAny_bind (ybp hs pl pu ?_)
  have hno : ¬ ((((sIx items.size 0 lo : Nat) : Int) == 0 && (1 : Int) == 1 && (sIx items.size items.size hi - sIx items.size 0 lo) == items.size) = true) := by
    intro q
    rw [Bool.and_eq_true, Bool.and_eq_true] at q
    have q1 : ((sIx items.size 0 lo : Nat) : Int) = 0 := eq_of_beq q.1.1
    have q2 : sIx items.size items.size hi - sIx items.size 0 lo = items.size := eq_of_beq q.2
    exact hw ⟨by omega, by omega⟩
  show wpAny _ _ (if (((sIx items.size 0 lo : Nat) : Int) == 0 && (1 : Int) == 1 && (sIx items.size items.size hi - sIx items.size 0 lo) == items.size) = true then _ else _) _ _ s
  rw [if_neg hno, zfb]
  first
    | exact wpAny_bind (m := Builtin.Tuple.tupleExact _) (wpAny_newObj_type (wpAny_pure ⟨_, rfl, wpAny_pure h⟩) htake)
    | exact wpAny_bind (m := Builtin.Tuple.tupleExact _) (wpAny_newObj_type (wpAny_bind (wpAny_pure (wpAny_pure ⟨_, rfl, wpAny_pure h⟩))) htake)
    | exact wpAny_bind (wpAny_bind (m := Builtin.Tuple.tupleExact _) (wpAny_newObj_type (wpAny_pure (wpAny_pure ⟨_, rfl, wpAny_pure h⟩)) htake))
    | exact wpAny_bind (wpAny_bind (m := Builtin.Tuple.tupleExact _) (wpAny_newObj_type (wpAny_pure ⟨_, rfl, wpAny_pure h⟩) htake))
end
end HT
namespace L2
open PySem PySem.Spec PyProof.Rows
noncomputable abbrev TO := St → Hp → (Option Int → Hp → Prop) → Prop
noncomputable def PO (X : Cx) (e : Option Expr) (t : TO) : Prop :=
  ∀ (pins : List (Addr × Obj)) (s : Shared) (σ : St) (H : Hp) (Q : Option Int → Hp → Prop), Inv X pins σ H s → t σ H Q →
    wpAny (model X.prog X.w) X.A (evalPart e X.env) (fun u s' => ∃ o H', Inv X pins σ H' s' ∧ IsPart u o ∧ Q o H') X.xe s
noncomputable def zfp : TO := fun _ H Q => Q none H
noncomputable def yf7 (t : TE) : TO := fun σ H Q => t σ H fun x H1 => ∃ i, x = .int i ∧ Q (some i) H1
section
variable {X : Cx} {e : Expr} {te : TE} {lo hi : Option Expr} {tl th : TO} {pos p2 : Pos}
theorem zcO : PO X none zfp := by
  intro pins s σ H Q I h
  rw [evalPart_none]
  exact wpAny_pure ⟨none, H, I, .none, h⟩
theorem zcJ (h : PE X e te) : PO X (some e) (yf7 te) := by
  intro pins s σ H Q I hw
  rw [evalPart_some]
  refine thn (h pins s σ H _ I hw) fun u s1 ⟨x, H1, I1, r1, q1⟩ => ?_
  obtain ⟨i, rfl, q⟩ := q1
  obtain ⟨t, rfl⟩ := r1
  exact ⟨some i, H1, I1, .int i t, q⟩
noncomputable def SlR (X : Cx) (r : V → Option Int → Option Int → Hp → VK → Prop) : Prop :=
  ∀ (pins : List (Addr × Obj)) (s : Shared) (σ : St) (H : Hp) (x : V) (v vl vu : Value) (lo hi : Option Int) (sl : Addr) (Q : VK), Inv X pins σ H s → RelV x v → s.heap.IsSliceOf sl vl vu .none → IsPart vl lo → IsPart vu hi → r x lo hi H Q →
    ∃ T id, typeLookup (.type T) "__getitem__" = pure (some (.builtin id)) ∧ s.TypeIs v T ∧ wpAny (model X.prog X.w) X.A (getItem v (.ref sl)) (EP X pins σ Q) X.xe s
noncomputable def tSl (r : V → Option Int → Option Int → Hp → VK → Prop) (te : TE) (tl th : TO) : TE := fun σ H Q => te σ H fun x H1 => tl σ H1 fun l H2 => th σ H2 fun u H3 => r x l u H3 Q
theorem yb5 {r : V → Option Int → Option Int → Hp → VK → Prop} (hr : SlR X r) (he : PE X e te) (hl : PO X lo tl) (hu : PO X hi th) : PE X (.Subscript e (.Slice lo hi none p2) pos) (tSl r te tl th) := by
  intro pins s σ H Q I h
  refine Subscript_ (thn (he pins s σ H _ I h) fun v s1 ⟨x, H1, I1, r1, q1⟩ => ?_)
  refine wpAny_Slice (thn (hl pins s1 σ H1 _ I1 q1) fun vl s2 ⟨l, H2, I2, pl, q2⟩ => thn (hu pins s2 σ H2 _ I2 q2) fun vu s3 ⟨u, H3, I3, pu, q3⟩ => ?_)
  rw [evalPart_none]
  refine wpAny_pure ?_
  have I4 : Inv X pins σ H3 { s3 with heap := s3.heap.push { cls := .type "slice", data := .fields #[vl, vu, .none] } } := I3.kept (t' := s3.toks) fun b ob q => Heap.get?_push_of_some _ q
  obtain ⟨T, id, hT, ht, hg⟩ := hr pins { s3 with heap := s3.heap.push { cls := .type "slice", data := .fields #[vl, vu, .none] } } σ H3 x v vl vu l u s3.heap.objs.size Q I4 r1 (Heap.IsSliceOf.new ..) pl pu q3
  show wpAny (model X.prog X.w) X.A (subscriptTail e (.Slice lo hi none p2) v (.ref s3.heap.objs.size)) (EP X pins σ Q) X.xe { s3 with heap := s3.heap.push { cls := .type "slice", data := .fields #[vl, vu, .none] } }
  exact tail_any (ops := [.ref s3.heap.objs.size, v]) ht hT hg (by with_unfolding_all rfl)
noncomputable def cutV (xs : List V) (lo hi : Option Int) : List V := (xs.drop (HT.sIx xs.length 0 lo)).take (HT.sIx xs.length xs.length hi - HT.sIx xs.length 0 lo)
theorem yb7 (xs : List V) (lo hi : Option Int) : (cutV xs lo hi).length ≤ xs.length := by
  unfold cutV
  rw [List.length_take, List.length_drop]
  omega
noncomputable def rSlT (K : PySem.W.Frag) : V → Option Int → Option Int → Hp → VK → Prop := fun x lo hi H Q => ∃ a xs, x = .ref a ∧ SqT K H a xs ∧
  ¬ (HT.sIx xs.length 0 lo = 0 ∧ HT.sIx xs.length xs.length hi = xs.length) ∧ ∀ p, H p = none → Q (.ref p) (upd H p (.tup (cutV xs lo hi)))
theorem zfZ : SlR X (rSlT X.K) := by
  intro pins s σ H x v vl vu lo hi sl Q I rx hs pl pu h
  obtain ⟨a, xs, rfl, hx, hw, q⟩ := h
  cases rx
  obtain ⟨its, r, ht, hz⟩ := I.tuple hx
  have hlen : its.toArray.size = xs.length := by rw [List.size_toArray]; exact r.length.symm
  refine ⟨"tuple", _, PyProof.Rows.slot_tuple_getitem.lookup, ht.typeIs, ?_⟩
  refine HT.getItem_tuple_cut ht hs pl pu (by rw [hlen]; exact hw) ?_ (by rw [hlen]; exact hz)
  rw [hlen]
  refine ⟨.ref s.heap.objs.size, _, I.laid (t' := s.toks) (o := .tup (cutV xs lo hi)) (fun b ob q => Heap.get?_push_of_some _ q) (Nat.le_refl _) ?_, rfl, q _ (I.hok.fresh (Nat.le_refl _))⟩
  exact ⟨Nat.le_trans (yb7 xs lo hi) hz, _, (r.drop (HT.sIx xs.length 0 lo)).take (HT.sIx xs.length xs.length hi - HT.sIx xs.length 0 lo), IsTup.new _ _⟩
noncomputable def zf9 (K : PySem.W.Frag) : R2 := fun x y H Q => ∃ a b xs ys, x = .ref a ∧ y = .ref b ∧ SqT K H a xs ∧ SqT K H b ys ∧ xs ≠ [] ∧ xs.length + ys.length ≤ sizeLine ∧
  (ys = [] → Q (.ref a) H) ∧ (ys ≠ [] → ∀ p, H p = none → Q (.ref p) (upd H p (.tup (xs ++ ys))))
theorem Vals.nil_iff {xs : List V} {us : List Value} (r : Vals xs us) : us = [] ↔ xs = [] := by
  cases r with
  | nil => simp
  | cons _ _ => simp
theorem zfw : OpR X (binaryOp .Add) (zf9 X.K) := by
  intro pins s σ H x y v u Q I rx ry h
  obtain ⟨a, b, xs, ys, rfl, rfl, ha, hb, hx, hz, q1, q2⟩ := h
  cases rx
  cases ry
  obtain ⟨its, r1, p1, _⟩ := I.tuple ha
  obtain ⟨its2, r2, p2, _⟩ := I.tuple hb
  refine HT.cat_tup p1 p2 (fun z => hx (r1.nil_iff.mp z)) (fun z => ⟨.ref a, H, I, rfl, q1 (r2.nil_iff.mp z)⟩) (fun z => ?_) (by rw [← r1.length, ← r2.length]; exact hz)
  refine ⟨.ref s.heap.objs.size, _, I.laid (t' := s.toks) (o := .tup (xs ++ ys)) (fun b ob q => Heap.get?_push_of_some _ q) (Nat.le_refl _) ?_, rfl, q2 (fun w => z (r2.nil_iff.mpr w)) _ (I.hok.fresh (Nat.le_refl _))⟩
  exact ⟨by rw [List.length_append]; exact hz, _, r1.append r2, IsTup.new _ _⟩
end
end L2
namespace L2
open PySem PySem.Spec PyProof.Rows
noncomputable def ixN (n : Nat) (i : Int) : Option Nat := if 0 ≤ i then (if i < n then some i.toNat else none) else if -(n : Int) ≤ i then some (i + n).toNat else none
noncomputable def atI {α : Type} (xs : List α) (i : Int) : Option α := (ixN xs.length i).bind fun j => xs[j]?
theorem ydn {n : Nat} {i : Int} {j : Nat} (h : ixN n i = some j) : seqIndex? i n = some j ∧ j < n ∧ -(n : Int) ≤ i ∧ i < n := by
  unfold ixN at h
  by_cases h0 : 0 ≤ i
  · rw [if_pos h0] at h
    by_cases h1 : i < n
    · rw [if_pos h1] at h
      have e : i.toNat = j := Option.some.inj h
      exact ⟨by rw [seqIndex_of h0 h1, e], by omega, by omega, h1⟩
    · rw [if_neg h1] at h; cases h
  · rw [if_neg h0] at h
    by_cases h1 : -(n : Int) ≤ i
    · rw [if_pos h1] at h
      have e : (i + n).toNat = j := Option.some.inj h
      exact ⟨by rw [seqIndex_neg (by omega) h1, e], by omega, h1, by omega⟩
    · rw [if_neg h1] at h; cases h
theorem yd8 {α : Type} {xs : List α} {i : Int} {v : α} (h : atI xs i = some v) : ∃ j, seqIndex? i xs.length = some j ∧ xs[j]? = some v ∧ j < xs.length ∧ -(xs.length : Int) ≤ i ∧ i < xs.length := by
  unfold atI at h
  cases e : ixN xs.length i with
  | none => rw [e] at h; cases h
  | some j =>
    rw [e] at h
    obtain ⟨h1, h2, h3, h4⟩ := ydn e
    exact ⟨j, h1, h, h2, h3, h4⟩
theorem ybk {α : Type} {xs : List α} {j : Nat} {v : α} (h : xs[j]? = some v) : atI xs (j : Int) = some v := by
  have hj : j < xs.length := (List.getElem?_eq_some_iff.mp h).1
  have e : ixN xs.length (j : Int) = some j := by
    unfold ixN
    rw [if_pos (by omega), if_pos (by omega)]; simp
  unfold atI; rw [e]; exact h
noncomputable def yfF (b : Expr) : Prop := ∀ o i, subscripted b false o i = operate [o, i] (getItem o i)
noncomputable def IxR (X : Cx) (r : R2) : Prop :=
  ∀ (value slice : Expr) (pins : List (Addr × Obj)) (s : Shared) (σ : St) (H : Hp) (x y : V) (v u : Value) (Q : VK), Inv X pins σ H s → RelV x v → RelV y u → r x y H Q →
    subscripted slice false v u = operate [v, u] (getItem v u) → wpAny (model X.prog X.w) X.A (subscriptTail value slice v u) (EP X pins σ Q) X.xe s
noncomputable def MtR (X : Cx) (id : String) (r : V → List V → Hp → VK → Prop) : Prop :=
  ∀ (pins : List (Addr × Obj)) (s : Shared) (σ : St) (H : Hp) (x : V) (xs : List V) (v : Value) (us : List Value) (Q : VK), Inv X pins σ H s → RelV x v → Vals xs us → r x xs H Q →
    wpAny (model X.prog X.w) X.A (call (.builtin id) (v :: us)) (EP X pins σ Q) X.xe s
section
variable {X : Cx} {a b : Expr} {ta tb : TE} {pos : Pos}
theorem zao {r : R2} (hr : IxR X r) (ha : PE X a ta) (hb : PE X b tb) (hs : yfF b) : PE X (.Subscript a b pos) (tOp r ta tb) := by
  intro pins s σ H Q I h
  exact Subscript_ (binT ha hb I h fun v u s2 x y H2 I2 rx ry q => hr a b pins s2 σ H2 x y v u Q I2 rx ry q (hs _ _))
noncomputable def rIxL (K : PySem.W.Frag) : R2 := fun x y H Q => ∃ p xs i v, x = .ref p ∧ y = .int i ∧ SqL K H p xs ∧ atI xs i = some v ∧ Q v H
noncomputable def rIxT (K : PySem.W.Frag) : R2 := fun x y H Q => ∃ p xs i v, x = .ref p ∧ y = .int i ∧ SqT K H p xs ∧ atI xs i = some v ∧ Q v H
theorem zaq : IxR X (rIxL X.K) := by
  intro value slice pins s σ H x y v u Q I rx ry h hs
  obtain ⟨p, xs, i, z, rfl, rfl, hq, he, q⟩ := h
  cases rx
  obtain ⟨t, rfl⟩ := ry
  obtain ⟨its, r, pl, hz⟩ := I.list hq
  obtain ⟨j, h1, h2, h3, h4, h5⟩ := yd8 he
  obtain ⟨w, ew, rw'⟩ := r.get h2
  have hl := r.length
  have hn := zdK
  have fin : EP X pins σ Q w s := ⟨z, H, I, rw', q⟩
  by_cases h0 : 0 ≤ i
  · have hj : i.toNat = j := by
      rw [seqIndex_of h0 h5] at h1
      exact Option.some.inj h1
    exact item_listR pl.isList h0 (by omega) (by rw [hj]; simpa using ew) fin hs
  · have hj : (i + (its.toArray.size : Int)).toNat = j := by
      rw [seqIndex_neg (by omega) h4] at h1
      rw [List.size_toArray, ← hl]
      exact Option.some.inj h1
    exact subscriptTail_builtinR (x := w) pl.isList.typeIs slot_list_getitem.lookup
      (wpAny_getItem_list_neg (Q := fun r s' => r = w ∧ EP X pins σ Q r s') pl.isList (by omega) (by rw [List.size_toArray] <;> omega) (by omega) (by rw [hj]; simpa using ew) ⟨rfl, fin⟩) hs
theorem zav : IxR X (rIxT X.K) := by
  intro value slice pins s σ H x y v u Q I rx ry h hs
  obtain ⟨p, xs, i, z, rfl, rfl, hq, he, q⟩ := h
  cases rx
  obtain ⟨t, rfl⟩ := ry
  obtain ⟨its, r, pl, hz⟩ := I.tuple hq
  obtain ⟨j, h1, h2, h3, h4, h5⟩ := yd8 he
  obtain ⟨w, ew, rw'⟩ := r.get h2
  have hl := r.length
  have hn := zdK
  have fin : EP X pins σ Q w s := ⟨z, H, I, rw', q⟩
  exact subscriptTail_builtinR (x := w) pl.typeIs slot_tuple_getitem.lookup
    (getItem_tuple (j := j) (Q := fun r s' => r = w ∧ EP X pins σ Q r s') pl (by omega) (by omega) (by rw [List.size_toArray, ← hl]; exact h1) (by simpa using ew) ⟨rfl, fin⟩) hs
theorem zd4 (its : List Value) (n j : Nat) (u : Value) : Obj.mapSeq (·.setIfInBounds j u) { cls := .type "list", data := .seq its.toArray n } = { cls := .type "list", data := .seq (its.set j u).toArray n } := by
  simp [Obj.mapSeq]
theorem Inv.lst {pins : List (Addr × Obj)} {σ : St} {H : Hp} {s : Shared} {p : Addr} {xs : List V} (I : Inv X pins σ H s) (h : H p = some (.lst xs)) :
    ∃ (its : List Value) (n : Nat), Vals xs its ∧ s.heap.get? p = some { cls := .type "list", data := .seq its.toArray n } ∧ xs.length ≤ sizeLine := by
  obtain ⟨z, its, n, r, e⟩ := I.hok p _ h
  exact ⟨its, n, r, e, z⟩
theorem Inv.lstUpd {pins : List (Addr × Obj)} {σ : St} {H : Hp} {s : Shared} {p : Addr} {xs ys : List V} {its its' : List Value} {n n' : Nat} {f : Obj → Obj} (I : Inv X pins σ H s) (h : H p = some (.lst xs))
    (ho : s.heap.get? p = some { cls := .type "list", data := .seq its.toArray n }) (hf : f { cls := .type "list", data := .seq its.toArray n } = { cls := .type "list", data := .seq its'.toArray n' }) (r : Vals ys its') (hz : ys.length ≤ sizeLine) (t : Nat) :
    Inv X pins σ (upd H p (.lst ys)) { s with heap := s.heap.update p f, toks := t } := by
  have e : (s.heap.update p f).get? p = some { cls := .type "list", data := .seq its'.toArray n' } := by
    rw [Heap.get?_update_self f ho (by rw [hf] <;> rfl), hf]
  refine I.write (x := p) (e := p) (by rw [h]; trivial) (.inl rfl) (fun b u hb q => (Heap.get?_update_other _ _ (Ne.symm hb)).trans q) ⟨_, e⟩ ?_
  exact ⟨hz, its', n', r, e⟩
noncomputable def zgi : V → V → V → Hp → (Hp → Prop) → Prop := fun o i v H Q => ∃ p xs k j, o = .ref p ∧ i = .int k ∧ H p = some (.lst xs) ∧ ixN xs.length k = some j ∧ Q (upd H p (.lst (xs.set j v)))
theorem zb3 : PSet X zgi := by
  intro pins s σ H o i v ov iv u Q I ro ri rv h
  obtain ⟨p, xs, k, j, rfl, rfl, hp, hj, q⟩ := h
  cases ro
  obtain ⟨t, rfl⟩ := ri
  obtain ⟨its, n, r, ho, hz⟩ := I.lst hp
  obtain ⟨h1, h2, h3, h4⟩ := ydn hj
  have hl := r.length
  have hn := zdK
  have I' : Inv X pins σ (upd H p (.lst (xs.set j v))) { s with heap := s.heap.update p (Obj.mapSeq (·.setIfInBounds j u)) } :=
    I.lstUpd hp ho (zd4 its n j u) (r.set rv j) (by rw [List.length_set]; exact hz) s.toks
  by_cases h0 : 0 ≤ k
  · have hk : k.toNat = j := by
      rw [seqIndex_of h0 h4] at h1
      exact Option.some.inj h1
    exact PySem.W.ki_setAt ho h0 (by omega) (by rw [List.size_toArray, ← hl]; exact h4) (by rw [hk]; exact ⟨_, I', q⟩)
  · have hk : (k + (its.toArray.size : Int)).toNat = j := by
      rw [seqIndex_neg (by omega) h3] at h1
      rw [List.size_toArray, ← hl]
      exact Option.some.inj h1
    exact PySem.W.ki_setBack ho (by omega) (by rw [List.size_toArray, ← hl]; exact h3) (by omega) (by rw [hk]; exact ⟨_, I', q⟩)
theorem zc5 (lo hi : Option Int) (n : Nat) : (sliceBounds lo hi none n).1 = ((HT.sIx n 0 lo : Nat) : Int) ∧ (sliceBounds lo hi none n).2.1 = ((HT.sIx n n hi : Nat) : Int) ∧ (sliceBounds lo hi none n).2.2 = 1 := by
  refine ⟨?_, ?_, rfl⟩
  · cases lo with
    | none => simp [sliceBounds, HT.sIx]
    | some i =>
      simp only [sliceBounds, HT.sIx, Option.getD_none, show (1 : Int) > 0 by decide, if_true]
      by_cases h : i < 0
      · simp only [h, if_true] <;> omega
      · simp only [h, if_false] <;> omega
  · cases hi with
    | none => simp [sliceBounds, HT.sIx]
    | some i =>
      simp only [sliceBounds, HT.sIx, Option.getD_none, show (1 : Int) > 0 by decide, if_true]
      by_cases h : i < 0
      · simp only [h, if_true] <;> omega
      · simp only [h, if_false] <;> omega
theorem zcQ (its : List Value) (lo hi : Option Int) : slicePick its.toArray lo hi none = ((its.drop (HT.sIx its.length 0 lo)).take (HT.sIx its.length its.length hi - HT.sIx its.length 0 lo)).toArray := by
  obtain ⟨h1, h2, h3⟩ := zc5 lo hi its.toArray.size
  unfold slicePick
  rw [h1, h2, h3]
  simp only [sliceRange_one, pick_run, List.size_toArray] <;> rfl
noncomputable def rSlL (K : PySem.W.Frag) : V → Option Int → Option Int → Hp → VK → Prop := fun x lo hi H Q => ∃ a xs, x = .ref a ∧ SqL K H a xs ∧ ∀ p, H p = none → Q (.ref p) (upd H p (.lst (cutV xs lo hi)))
theorem yeL : SlR X (rSlL X.K) := by
  intro pins s σ H x v vl vu lo hi sl Q I rx hs pl pu h
  obtain ⟨a, xs, rfl, hx, q⟩ := h
  cases rx
  obtain ⟨its, r, ht, hz⟩ := I.list hx
  have hlen := r.length
  refine ⟨"list", _, slot_list_getitem.lookup, ht.isList.typeIs, ?_⟩
  refine wpAny_getItem_list_slice ht.isList hs pl pu .none (by simp) ?_ (by rw [List.size_toArray] <;> omega)
  rw [zcQ, ← hlen]
  refine ⟨.ref s.heap.objs.size, _, I.laid (t' := s.toks) (o := .lst (cutV xs lo hi)) (fun b ob q => Heap.get?_push_of_some _ q) (Nat.le_refl _) ?_, rfl, q _ (I.hok.fresh (Nat.le_refl _))⟩
  exact ⟨Nat.le_trans (yb7 xs lo hi) hz, _, 0, (r.drop (HT.sIx xs.length 0 lo)).take (HT.sIx xs.length xs.length hi - HT.sIx xs.length 0 lo), Heap.get?_push_size _ rfl⟩
noncomputable def zcR : V → Bool
  | .non => true
  | .bl _ => true
  | .int _ => true
  | .str _ => true
  | _ => false
noncomputable def eqV : V → V → Bool
  | .non, .non => true
  | .bl a, .bl b => a == b
  | .bl a, .int b => (if a then 1 else 0) == b
  | .int a, .bl b => a == (if b then 1 else 0)
  | .int a, .int b => a == b
  | .str a, .str b => a == b
  | _, _ => false
theorem yfR {A : Around} {s : Shared} {y x : V} {u v : Value} (ry : RelV y u) (rx : RelV x v) (fy : zcR y = true) (fx : zcR x = true) : SeqAt.EqAt A s u v (eqV y x) := by
  cases y with
  | non =>
    cases ry
    cases x with
    | non => cases rx; exact SeqAt.EqAt.same _
    | bl b => cases rx; exact SeqAt.EqAt.none_bool b
    | int b => obtain ⟨t, rfl⟩ := rx; exact SeqAt.EqAt.none_int b t
    | str b => obtain ⟨t, rfl⟩ := rx; exact SeqAt.EqAt.none_str b t
    | _ => exact absurd (show false = true from fx) Bool.false_ne_true
  | bl a =>
    cases ry
    cases x with
    | non => cases rx; exact SeqAt.EqAt.bool_none a
    | bl b => cases rx; exact SeqAt.EqAt.bool_bool a b
    | int b => obtain ⟨t, rfl⟩ := rx; exact SeqAt.EqAt.bool_int a b t
    | str b => obtain ⟨t, rfl⟩ := rx; exact SeqAt.EqAt.bool_str a b t
    | _ => exact absurd (show false = true from fx) Bool.false_ne_true
  | int a =>
    obtain ⟨t', rfl⟩ := ry
    cases x with
    | non => cases rx; exact SeqAt.EqAt.int_none a t'
    | bl b => cases rx; exact SeqAt.EqAt.int_bool a t' b
    | int b => obtain ⟨t, rfl⟩ := rx; exact SeqAt.EqAt.int_int a t' b t
    | str b => obtain ⟨t, rfl⟩ := rx; exact SeqAt.EqAt.int_str a t' b t
    | _ => exact absurd (show false = true from fx) Bool.false_ne_true
  | str a =>
    obtain ⟨t', rfl⟩ := ry
    cases x with
    | non => cases rx; exact SeqAt.EqAt.str_none a t'
    | bl b => cases rx; exact SeqAt.EqAt.str_bool a t' b
    | int b => obtain ⟨t, rfl⟩ := rx; exact SeqAt.EqAt.str_int a t' b t
    | str b => obtain ⟨t, rfl⟩ := rx; exact SeqAt.EqAt.str_str a t' b t
    | _ => exact absurd (show false = true from fx) Bool.false_ne_true
  | _ => exact absurd (show false = true from fy) Bool.false_ne_true
noncomputable def eqU (x : V) (u : Value) : Bool := match u with
  | .none => eqV .non x
  | .bool b => eqV (.bl b) x
  | .int i _ => eqV (.int i) x
  | .str z _ => eqV (.str z) x
  | _ => false
theorem yfn {x y : V} {u : Value} (r : RelV y u) (f : zcR y = true) : eqU x u = eqV y x := by
  cases y with
  | non => cases r; rfl
  | bl b => cases r; rfl
  | int i => obtain ⟨t, rfl⟩ := r; rfl
  | str z => obtain ⟨t, rfl⟩ := r; rfl
  | _ => exact absurd (show false = true from f) Bool.false_ne_true
theorem zce {x : V} : ∀ {xs : List V} {us : List Value}, Vals xs us → xs.all zcR = true → us.any (eqU x) = xs.any fun y => eqV y x
  | _, _, .nil, _ => rfl
  | y :: xs, u :: us, .cons r t, f => by
    rw [List.all_cons, Bool.and_eq_true] at f
    rw [List.any_cons, List.any_cons, yfn r f.1, zce t f.2]
theorem zbL {A : Around} {s : Shared} {x : V} {v : Value} (rx : RelV x v) (fx : zcR x = true) : ∀ {xs : List V} {us : List Value}, Vals xs us → xs.all zcR = true → ∀ u ∈ us, SeqAt.EqAt A s u v (eqU x u)
  | _, _, .nil, _ => fun u hu => by cases hu
  | y :: xs, u :: us, .cons r t, f => fun u' hu => by
    rw [List.all_cons, Bool.and_eq_true] at f
    rcases List.mem_cons.mp hu with rfl | hu
    · rw [yfn r f.1]; exact yfR r rx f.1 fx
    · exact zbL rx fx t f.2 u' hu
noncomputable def inV (x : V) (xs : List V) : Bool := xs.any fun y => eqV y x
noncomputable def rIn (K : PySem.W.Frag) (neg : Bool) : R2 := fun x y H Q => ∃ p xs, y = .ref p ∧ (SqL K H p xs ∨ SqT K H p xs) ∧ zcR x = true ∧ xs.all zcR = true ∧ Q (.bl (if neg then !inV x xs else inV x xs)) H
theorem yen : OpR X (compareOp .In) (rIn X.K false) := by
  intro pins s σ H x y v u Q I rx ry h
  obtain ⟨p, xs, rfl, hq, fx, fs, q⟩ := h
  cases ry
  rcases hq with hq | hq
  · obtain ⟨its, r, pl, hz⟩ := I.list hq
    refine SeqAt.in_listAt (eqU x) pl.isList (fun w hw => zbL rx fx r fs w (by simpa using hw)) ⟨.bl _, H, I, rfl, ?_⟩
    rw [show its.toArray.any (eqU x) = its.any (eqU x) by simp, zce r fs]
    exact q
  · obtain ⟨its, r, pl, hz⟩ := I.tuple hq
    refine SeqAt.in_tupleAt (eqU x) pl (fun w hw => zbL rx fx r fs w (by simpa using hw)) ⟨.bl _, H, I, rfl, ?_⟩
    rw [show its.toArray.any (eqU x) = its.any (eqU x) by simp, zce r fs]
    exact q
theorem zcW : OpR X (compareOp .NotIn) (rIn X.K true) := by
  intro pins s σ H x y v u Q I rx ry h
  obtain ⟨p, xs, rfl, hq, fx, fs, q⟩ := h
  cases ry
  rcases hq with hq | hq
  · obtain ⟨its, r, pl, hz⟩ := I.list hq
    refine SeqAt.notIn_listAt (eqU x) pl.isList (fun w hw => zbL rx fx r fs w (by simpa using hw)) ⟨.bl _, H, I, rfl, ?_⟩
    rw [show its.toArray.any (eqU x) = its.any (eqU x) by simp, zce r fs]
    exact q
  · obtain ⟨its, r, pl, hz⟩ := I.tuple hq
    refine SeqAt.notIn_tupleAt (eqU x) pl (fun w hw => zbL rx fx r fs w (by simpa using hw)) ⟨.bl _, H, I, rfl, ?_⟩
    rw [show its.toArray.any (eqU x) = its.any (eqU x) by simp, zce r fs]
    exact q
theorem zar : ybn X (.builtin "len") (fun xs H Q => ∃ p ys, xs = [.ref p] ∧ (SqL X.K H p ys ∨ SqT X.K H p ys) ∧ Q (.int ys.length) H) := by
  intro pins s σ H xs us Q I r h
  obtain ⟨p, ys, rfl, hq, q⟩ := h
  obtain ⟨u, rfl, rx⟩ := ycJ r
  cases rx
  have hn := zdK
  rcases hq with hq | hq
  · obtain ⟨its, r', pl, hz⟩ := I.list hq
    have hlen := r'.length
    exact Calls.call_len_list pl.isList (by simp only [List.size_toArray] <;> omega) ⟨.int ys.length, H, I.tok _, ⟨s.toks + 1, by rw [List.size_toArray, hlen]⟩, q⟩
  · obtain ⟨its, r', pl, hz⟩ := I.tuple hq
    have hlen := r'.length
    exact len_tuple pl (by simp only [List.size_toArray] <;> omega) ⟨.int ys.length, H, I.tok _, ⟨s.toks + 1, by rw [List.size_toArray, hlen]⟩, q⟩
theorem yaL : ybn X (.type "tuple") (fun xs H Q => ∃ p ys, xs = [.ref p] ∧ ((SqL X.K H p ys ∧ ∀ l, H l = none → Q (.ref l) (upd H l (.tup ys))) ∨ (SqT X.K H p ys ∧ Q (.ref p) H))) := by
  intro pins s σ H xs us Q I r h
  obtain ⟨p, ys, rfl, h⟩ := h
  obtain ⟨u, rfl, rx⟩ := ycJ r
  cases rx
  rcases h with ⟨hq, q⟩ | ⟨hq, q⟩
  · obtain ⟨its, r', pl, hz⟩ := I.list hq
    have hlen := r'.length
    refine call_tuple_list pl.isList (fun h' kp => ?_) (by simp only [List.size_toArray] <;> omega)
    have I1 : Inv X pins σ H { s with heap := h' } := I.kept (t' := s.toks) kp
    have I2 : Inv X pins σ (upd H h'.objs.size (.tup ys)) { s with heap := h'.push { cls := .type "tuple", data := .seq its.toArray } } :=
      I1.laid (t' := s.toks) (fun b o e => Heap.get?_push_of_some _ e) (Nat.le_refl _) (show ya7 X.prog X.w _ _ _ (.tup ys) from ⟨hz, its, r', IsTup.new _ _⟩)
    exact ⟨.ref h'.objs.size, _, I2, rfl, q _ (I1.hok.fresh (Nat.le_refl _))⟩
  · obtain ⟨its, r', pl, hz⟩ := I.tuple hq
    exact call_tuple_same pl ⟨.ref p, H, I, rfl, q⟩
noncomputable def tyV (K : PySem.W.Frag) (T : String) (x : V) (H : Hp) : Prop := match x with
  | .str _ => T = "str"
  | .int _ => T = "int"
  | .ref p => (T = "list" ∧ ∃ xs, SqL K H p xs) ∨ (T = "tuple" ∧ ∃ o, K.lookup p = some o ∧ o.cls = .type "tuple" ∧ o.dict = none) ∨
      (T = "dict" ∧ ((∃ kvs, H p = some (.dK kvs)) ∨ ∃ kvs, H p = some (.dT kvs))) ∨ (T = "set" ∧ ∃ S n, H p = some (.set S n))
  | _ => False
theorem zfT {pins : List (Addr × Obj)} {σ : St} {H : Hp} {s : Shared} {T : String} {x : V} {v : Value} (I : Inv X pins σ H s) (r : RelV x v) (ty : tyV X.K T x H) :
    s.TypeIs v T ∧ ∀ a, v = .ref a → ∃ ob, s.heap.get? a = some ob ∧ ob.dict = none := by
  cases x with
  | str z =>
    obtain ⟨t, rfl⟩ := r
    cases (show T = "str" from ty)
    exact ⟨typeIs_str s z t, fun _ e => nomatch e⟩
  | int i =>
    obtain ⟨t, rfl⟩ := r
    cases (show T = "int" from ty)
    exact ⟨typeIs_int s i t, fun _ e => nomatch e⟩
  | ref p =>
    cases r
    rcases ty with ⟨rfl, xs, hq⟩ | ⟨rfl, o, hk, hc, hd⟩ | ⟨rfl, hk⟩ | ⟨rfl, S, n, hk⟩
    · obtain ⟨its, _, pl, _⟩ := I.list hq
      refine ⟨pl.isList.typeIs, fun a e => ?_⟩
      cases e
      obtain ⟨o, n, e, c, hd, _⟩ := pl
      exact ⟨o, e, hd⟩
    · refine ⟨⟨o, I.kIn p o hk, hc⟩, fun a e => ?_⟩
      cases e
      exact ⟨o, I.kIn _ o hk, hd⟩
    · have z : ∃ o, s.heap.get? p = some o ∧ o.ExactDict := by
        rcases hk with ⟨kvs, hk⟩ | ⟨kvs, hk⟩
        · obtain ⟨_, _, _, _, o, _, _, e, ex, _⟩ := I.hok p _ hk
          exact ⟨o, e, ex⟩
        · obtain ⟨_, _, _, _, o, _, _, e, ex, _⟩ := I.hok p _ hk
          exact ⟨o, e, ex⟩
      obtain ⟨o, e, ex⟩ := z
      refine ⟨⟨o, e, ex.1⟩, fun a e2 => ?_⟩
      cases e2
      exact ⟨o, e, ex.2.1⟩
    · obtain ⟨o, _, _, _, e, ex, _⟩ := I.hok p _ hk
      refine ⟨⟨o, e, ex.1⟩, fun a e2 => ?_⟩
      cases e2
      exact ⟨o, e, ex.2.1⟩
  | _ => exact False.elim ty
noncomputable def tBM (K : PySem.W.Frag) (T : String) (r : V → List V → Hp → VK → Prop) (to : TE) (t : TA) : TE := fun σ H Q => to σ H fun x H1 => tyV K T x H1 ∧ t σ H1 fun xs H2 => r x xs H2 Q
variable {o e : Expr} {es : List Expr} {to : TE} {t : TA} {name : Str} {apos cpos : Pos} {T id : String} {r : V → List V → Hp → VK → Prop}
theorem zc8 (pa : PlainAttrs T) (slot : Slot T name id) (hty : typeOf (.builtin id) = pure (.type "method_descriptor")) (hm : MtR X id r) (ho : PE X o to) (ha : PA X (e :: es) t)
    (hbase : attributeBase o name X.env (eval o X.env) = eval o X.env := by rfl)
    (hfew : ((backTo cpos (starEach (e :: es) X.env)).all (fun x => !x.1) && (backToKw cpos (keywordEach [] X.env)).all (fun x => x.1.isSome)
      && decide ((e :: es).length + ([] : List Keyword).length + (if ([] : List Keyword).isEmpty then 0 else 1) < 30)) = true := by rfl)
    (hline : (apos.endLine == cpos.line) = true := by rfl) (hs : starEach (e :: es) X.env = (false, eval e X.env) :: starEach es X.env := by rfl) (hplain : (backTo cpos (starEach es X.env)).any (·.1) = false := by rfl) :
    PE X (.Call (.Attribute o name apos) (e :: es) [] cpos) (tBM X.K T r to t) := by
  intro pins s σ H Q I h
  refine wpAny_Call_method_late hbase hfew hline rfl (thn (ho pins s σ H _ I h) fun v s1 ⟨x, H1, I1, r1, ty, q1⟩ => ?_)
  obtain ⟨h1, h2⟩ := zfT I1 r1 ty
  refine ⟨T, id, pa, slot, hty, h1, h2, ?_⟩
  have hA := ha cpos pins s1 σ H1 _ I1 q1
  rw [hs] at hA ⊢
  refine Calls.callWith_builtin (by show (false || (backTo cpos (starEach es X.env)).any (·.1)) = false; rw [hplain] <;> rfl) (Calls.evalArgs_plain ?_)
  exact thn hA fun us s2 ⟨vs, H2, I2, r2, q2⟩ => hm pins s2 σ H2 x vs v us Q I2 r1 r2 q2
end
end L2
namespace L2
open PySem PySem.Spec PyProof.Rows
noncomputable def MtM (X : Cx) (id : String) (r : V → List V → Hp → VK → Prop) : Prop :=
  ∀ (pins : List (Addr × Obj)) (s : Shared) (σ : St) (H : Hp) (x : V) (xs : List V) (v : Value) (us : List Value) (Q : VK), Inv X pins σ H s → RelV x v → Vals xs us → r x xs H Q →
    wpAny (model X.prog X.w) X.A (call (.builtin id) (v :: us)) (EP X pins σ Q) X.xe s
theorem Vals.one : ∀ {x : V} {us : List Value}, Vals [x] us → ∃ u, us = [u] ∧ RelV x u
  | _, _, .cons r .nil => ⟨_, rfl, r⟩
theorem Vals.eraseIdx : ∀ {xs : List V} {us : List Value} (i : Nat), Vals xs us → Vals (xs.eraseIdx i) (us.eraseIdx i)
  | _, _, _, .nil => .nil
  | _, _, 0, .cons _ t => t
  | _, _, i + 1, .cons r t => .cons r (Vals.eraseIdx i t)
theorem Vals.reverse {xs : List V} {us : List Value} (h : Vals xs us) : Vals xs.reverse us.reverse := by
  induction h with
  | nil => exact .nil
  | cons r t ih => rw [List.reverse_cons, List.reverse_cons]; exact Vals.append ih (.cons r .nil)
theorem Vals.rep {xs : List V} {us : List Value} (h : Vals xs us) : ∀ k : Nat, Vals (List.replicate k xs).flatten (List.replicate k us).flatten
  | 0 => .nil
  | k + 1 => by
    rw [List.replicate_succ, List.replicate_succ, List.flatten_cons, List.flatten_cons]
    exact Vals.append h (Vals.rep h k)
theorem ydh {α : Type} : ∀ (l : List α) (i : Nat), (l.eraseIdx i).length ≤ l.length
  | [], _ => Nat.le_refl _
  | _ :: _, 0 => Nat.le_succ _
  | _ :: r, i + 1 => Nat.succ_le_succ (ydh r i)
theorem zc9 (its : List Value) : ∀ (k : Nat) (acc : List Value),
    List.foldl (fun x1 x2 => x1 ++ x2) acc.toArray (List.replicate k its.toArray) = (acc ++ (List.replicate k its).flatten).toArray
  | 0, acc => by simp
  | k + 1, acc => by
    have e : acc.toArray ++ its.toArray = (acc ++ its).toArray := by simp
    have e2 : (acc ++ its) ++ (List.replicate k its).flatten = acc ++ (List.replicate (k + 1) its).flatten := by
      rw [List.replicate_succ, List.flatten_cons, List.append_assoc]
    rw [← e2, ← zc9 its k (acc ++ its), ← e, List.replicate_succ, List.foldl_cons]
section
variable {X : Cx} {pins : List (Addr × Obj)} {σ : St} {H : Hp} {s : Shared} {l b : Addr} {xs ys zs : List V}
theorem Inv.lset {its its' : List Value} {n : Nat} {f : Array Value → Array Value} {t' : Nat} (I : Inv X pins σ H s) (hH : H l = some (.lst xs))
    (e : s.heap.get? l = some { cls := .type "list", data := .seq its.toArray n }) (hf : f its.toArray = its'.toArray) (hv : Vals ys its') (hz : ys.length ≤ sizeLine) :
    Inv X pins σ (upd H l (.lst ys)) { s with heap := s.heap.update l (Obj.mapSeq f), toks := t' } := by
  have q := PySem.IsL.update e f
  rw [hf] at q
  refine I.write (x := l) (e := l) (by rw [hH]; exact trivial) (.inl rfl) (fun b' u hb hu => (Heap.get?_update_other s.heap (Obj.mapSeq f) (Ne.symm hb)).trans hu) ⟨_, q⟩ ?_
  exact ⟨hz, its', _, hv, q⟩
theorem Inv.lnew {its : List Value} {t' : Nat} (I : Inv X pins σ H s) (hv : Vals ys its) (hz : ys.length ≤ sizeLine) :
    Inv X pins σ (upd H s.heap.objs.size (.lst ys)) { s with heap := s.heap.push { cls := .type "list", data := .seq its.toArray }, toks := t' } :=
  I.laid (fun _ _ q => Heap.get?_push_of_some _ q) (Nat.le_refl _) ⟨hz, its, 0, hv, Heap.get?_push_size _ rfl⟩
theorem Inv.fresh (I : Inv X pins σ H s) : H s.heap.objs.size = none := I.hok.fresh (Nat.le_refl _)
theorem Inv.lstM (I : Inv X pins σ H s) (hH : H l = some (.lst xs)) : xs.length ≤ sizeLine ∧ ∃ (its : List Value) (n : Nat), Vals xs its ∧ xs.length = its.length ∧ s.heap.get? l = some { cls := .type "list", data := .seq its.toArray n } := by
  obtain ⟨z, its, n, r, e⟩ := I.hok l _ hH
  exact ⟨z, its, n, r, r.length, e⟩
theorem ydP {n : Nat} (h : n ≤ sizeLine) : Builtin.List.listTooLong n = false := by
  unfold Builtin.List.listTooLong
  exact decide_eq_false (by omega)
end
section
variable {X : Cx}
noncomputable def zfq : V → List V → Hp → VK → Prop := fun x vs H Q => ∃ l xs y, x = .ref l ∧ vs = [y] ∧ H l = some (.lst xs) ∧ xs.length < sizeLine ∧ Q .non (upd H l (.lst (xs ++ [y])))
theorem yaY : MtM X "list.append" zfq := by
  intro pins s σ H x vs v us Q I rx rv h
  obtain ⟨l, xs, y, rfl, rfl, hH, hz, q⟩ := h
  cases rx
  obtain ⟨u, rfl, ru⟩ := rv.one
  obtain ⟨z, its, n, r, hl, e⟩ := I.lstM hH
  refine call_meets F.slot_list_append ⟨_, e, rfl⟩ F.entry_list_append (F.args_list_append_2 _ _) (PySem.list_append l its.toArray n u (by rw [List.size_toArray]; omega)) ⟨e, ?_⟩
  refine ⟨.non, _, I.lset (its' := its ++ [u]) hH e (by simp) (r.append (.cons ru .nil)) ?_, rfl, q⟩
  rw [List.length_append, List.length_singleton]
  omega
noncomputable def yfw : V → List V → Hp → VK → Prop := fun x vs H Q => ∃ l b xs zs, x = .ref l ∧ vs = [.ref b] ∧ H l = some (.lst xs) ∧ H b = some (.lst zs) ∧ xs.length + zs.length ≤ sizeLine ∧ Q .non (upd H l (.lst (xs ++ zs)))
theorem yf1 : MtM X "list.extend" yfw := by
  intro pins s σ H x vs v us Q I rx rv h
  obtain ⟨l, b, xs, zs, rfl, rfl, hH, hB, hz, q⟩ := h
  cases rx
  obtain ⟨u, rfl, ru⟩ := rv.one
  cases ru
  obtain ⟨z, its, n, r, hl, e⟩ := I.lstM hH
  obtain ⟨z2, its2, n2, r2, hl2, e2⟩ := I.lstM hB
  have hsz : its.toArray.size + its2.toArray.size ≤ sizeLine := by rw [List.size_toArray, List.size_toArray]; omega
  have hlong : ¬ (!its.toArray.isEmpty && Builtin.List.listTooLong (its.toArray.size + its2.toArray.size)) = true := by
    rw [ydP hsz, Bool.and_false]
    exact Bool.false_ne_true
  refine call_meets F.slot_list_extend ⟨_, e, rfl⟩ F.entry_list_extend (F.args_list_extend_2 _ _)
    (AutoSeq1.list_extend_list_list_0 l its.toArray n b its2.toArray n2 hlong (by rw [List.size_toArray]; omega) (by omega)) ⟨e, e2, ?_⟩
  refine ⟨.non, _, I.lset (its' := its ++ its2) hH e (by simp) (r.append r2) ?_, rfl, q⟩
  rw [List.length_append]
  omega
noncomputable def zfP : V → List V → Hp → VK → Prop := fun x vs H Q => ∃ l xs i k y, x = .ref l ∧ vs = [.int i] ∧ H l = some (.lst xs) ∧ -(2 ^ 63) ≤ i ∧ i < 2 ^ 63 ∧ seqIndex? i xs.length = some k ∧ xs[k]? = some y ∧ Q y (upd H l (.lst (xs.eraseIdx k)))
theorem ye7 : MtM X "list.pop" zfP := by
  intro pins s σ H x vs v us Q I rx rv h
  obtain ⟨l, xs, i, k, y, rfl, rfl, hH, h1, h2, hk, hy, q⟩ := h
  cases rx
  obtain ⟨u, rfl, ru⟩ := rv.one
  obtain ⟨t, rfl⟩ := ru
  obtain ⟨z, its, n, r, hl, e⟩ := I.lstM hH
  obtain ⟨w, hw, rw'⟩ := r.get hy
  refine call_meets F.slot_list_pop ⟨_, e, rfl⟩ F.entry_list_pop (F.args_list_pop_2 _ _)
    (MeetsSeq.list_pop_at l its.toArray n i t k w (fitsIndex_both h1 h2) (by rw [List.size_toArray, ← hl]; exact hk) (by rw [← Array.getElem?_toList]; exact hw) (by rw [List.size_toArray]; omega)) ⟨e, ?_⟩
  refine ⟨y, _, I.lset (its' := its.eraseIdx k) hH e ?_ (r.eraseIdx k) ?_, rw', q⟩
  · show its.toArray.eraseIdxIfInBounds k = (its.eraseIdx k).toArray
    rw [List.eraseIdxIfInBounds_toArray]
  · have := ydh xs k
    omega
noncomputable def rCat : R2 := fun x y H Q => ∃ l b xs zs, x = .ref l ∧ y = .ref b ∧ H l = some (.lst xs) ∧ H b = some (.lst zs) ∧ xs.length + zs.length ≤ sizeLine ∧ ∀ p, H p = none → Q (.ref p) (upd H p (.lst (xs ++ zs)))
theorem yfS : OpR X (binaryOp .Add) rCat := by
  intro pins s σ H x y v u Q I rx ry h
  obtain ⟨l, b, xs, zs, rfl, rfl, hH, hB, hz, q⟩ := h
  cases rx
  cases ry
  obtain ⟨z, its, n, r, hl, e⟩ := I.lstM hH
  obtain ⟨z2, its2, n2, r2, hl2, e2⟩ := I.lstM hB
  refine PySem.P.add_list e e2 ?_ (by rw [List.size_toArray, List.size_toArray]; omega)
  have ea : its.toArray ++ its2.toArray = (its ++ its2).toArray := by simp
  rw [ea]
  exact ⟨.ref _, _, I.lnew (t' := s.toks) (r.append r2) (by rw [List.length_append]; omega), rfl, q _ I.fresh⟩
noncomputable def rRep : R2 := fun x y H Q => ∃ l k xs, x = .ref l ∧ y = .int k ∧ H l = some (.lst xs) ∧ -(2 ^ 63) ≤ k ∧ k < 2 ^ 63 ∧ xs.length * k.toNat ≤ sizeLine ∧
  ∀ p, H p = none → Q (.ref p) (upd H p (.lst (List.replicate k.toNat xs).flatten))
theorem zfG {α : Type} (xs : List α) (k : Nat) : (List.replicate k xs).flatten.length = k * xs.length := by
  induction k with
  | zero => simp
  | succ k ih => rw [List.replicate_succ, List.flatten_cons, List.length_append, ih, Nat.succ_mul, Nat.add_comm]
theorem yfT : OpR X (binaryOp .Mult) rRep := by
  intro pins s σ H x y v u Q I rx ry h
  obtain ⟨l, k, xs, rfl, rfl, hH, h1, h2, hz, q⟩ := h
  cases rx
  obtain ⟨t, rfl⟩ := ry
  obtain ⟨z, its, n, r, hl, e⟩ := I.lstM hH
  have hlen : its.toArray.size * k.toNat ≤ sizeLine := by rw [List.size_toArray, ← hl]; exact hz
  have hcap : ¬ its.toArray.size * k.toNat > (2 ^ 63 - 1) / 8 := by
    have : (sizeLine : Nat) ≤ (2 ^ 63 - 1) / 8 := by decide
    omega
  have hfit : ¬ (!Builtin.List.listFitsIndex k) = true := by
    rw [fitsIndex_both h1 h2]
    exact Bool.false_ne_true
  have hlong : ¬ Builtin.List.listTooLong (its.toArray.size * k.toNat) = true := by
    rw [ydP hlen]
    exact Bool.false_ne_true
  have hnew : List.foldl (fun x1 x2 => x1 ++ x2) #[] (List.replicate (if its.toArray.isEmpty = true then 0 else k.toNat) its.toArray) = (List.replicate k.toNat its).flatten.toArray := by
    have f0 : ∀ m : Nat, List.foldl (fun x1 x2 => x1 ++ x2) #[] (List.replicate m its.toArray) = (List.replicate m its).flatten.toArray := fun m => by
      have := zc9 its m []
      rw [List.nil_append] at this
      exact this
    rw [f0]
    cases its with
    | nil => simp
    | cons a r' => rw [if_neg (by simp)]
  refine wpAny_binaryOp_repeat_ref (T := "list") (U := "int") (by decide) ⟨_, e, rfl⟩ (fun s' => typeIs_int s' k t) noFill_list_mul F.fills_int_mul F.slot_int_rmul repeat_list F.slot_int_index.lookup
    (call_meets F.slot_int_rmul (typeIs_int s k t) F.entry_int_rmul (F.args_int_rmul_2 _ _) (int___rmul___int_list k t l its.toArray n)
      ⟨e, rfl, ⟨_, e, rfl⟩, call_meets F.slot_list_mul ⟨_, e, rfl⟩ F.entry_list_mul (F.args_list_mul_2 _ _) (AutoListH.list___mul___list_int_3 l its.toArray n k t hfit hcap hlong) ⟨e, ?_⟩⟩)
  rw [hnew]
  exact ⟨.ref _, _, I.lnew (t' := s.toks) (r.rep k.toNat) (by rw [zfG, Nat.mul_comm]; exact hz), rfl, q _ I.fresh⟩
end
section
variable {prog : Program} {w : World} {A : Around} {E : Value → Shared → Prop} {s : Shared}
end
section
variable {X : Cx}
end
end L2
namespace Att
open PySem PySem.W PySem.Calls PyProof.Rows
theorem zcb {P : Params} {h : Heap} : ∀ (ns : List Int) (vs : List Value), WellAll P h vs (ns.map WData.int) → IntsAre vs ns := by
  intro ns
  induction ns with
  | nil =>
    intro vs w
    rw [List.map_nil] at w
    cases w
    exact .nil
  | cons n ns ih =>
    intro vs w
    rw [List.map_cons] at w
    cases w with
    | cons a b =>
      cases a
      exact .cons _ _ (ih _ b)
theorem zd6 {l : OpenLaw} {n : Nat} (hn : l.most = some n) {P : Params} {h : Heap} {args : List WData} {vals : List Value}
    (hpre : l.row.toRowW.claim.pre args = true) (hwl : WellAll P h vals args) :
    ∃ a vs ns, vals = [Value.ref a] ∧ args = [WData.list (ns.map WData.int)] ∧ h.get? a = some { cls := .type "list", data := .seq vs.toArray } ∧ IntsAre vs ns ∧ ns.length ≤ n := by
  have hsh : WShape.hasAll [] args [.list .int] = true := (pre_splitW hpre).1
  have hc : l.pre.holds [] { args := args } = true := (pre_splitW hpre).2
  obtain ⟨d, r, rfl, h1, h2⟩ := hasAllW_cons hsh
  obtain rfl := hasAllW_nil h2
  obtain ⟨xs, rfl, h3⟩ := hasW_list h1
  obtain ⟨ns, rfl⟩ := items_int h3
  have hlen : ns.length ≤ n := by
    unfold OpenLaw.pre at hc
    have h4 : (WTm.not (.lt (.lit (.int (n : Int))) (.len (.arg 0)))).holds [] { args := [.list (ns.map .int)] } = true := by
      have h4 := (holds_andW hc).1
      rw [hn] at h4
      exact h4
    have h5 := condW_of h4 (w_not (w_lt w_lit (w_len_list (w_arg rfl))))
    rw [List.length_map] at h5
    refine Nat.le_of_not_lt fun q => ?_
    have q' : (n : Int) < ((ns.length : Nat) : Int) := by omega
    first
      | (rw [decide_eq_true q'] at h5; exact absurd h5 (by decide))
      | (simp at h5; omega)
  cases hwl with
  | cons w1 w2 =>
    cases w2
    cases w1 with
    | list ho hall => exact ⟨_, _, ns, rfl, rfl, ho, zcb ns _ hall, hlen⟩
theorem zeG (l : OpenLaw) (args : List WData) : l.row.toRowW.claim.post args (.bool true) args = true :=
  postW_of (r := l.row.toRowW) (X := (true == true))
    (show WShape.has [] (.bool true) .bool = true by first | rfl | decide | simp [WShape.has, WShape.arms, WShape.armsAll])
    (show (WTm.eq .res (.lit (.bool true))).value [] { args := args, res := some (.bool true), after := args } = some (.bool (true == true)) from w_eq_bool (w_res rfl) w_lit) rfl
theorem attach_call {l : OpenLaw} {n : Nat} {q : Program} {loose : List Str} {XP : (Str → Option Value) → Heap → Prop} {YP : World → Heap → Prop} {d : DefRec}
    (hn : l.most = some n) (hdf : d.params.defaults = [])
    (call : ∀ (w : World) (s₀ s₁ : Shared) (mg mb : Str → Option Value) (fa : Addr) (o : Obj) (pm cd doc : Value) (a : Addr) (vs : List Value) (ns : List Int),
      Ground q loose [] XP w s₀ mg mb s₁.heap → YP w s₁.heap →
      s₁.heap.get? fa = some o → o.data = .func (docDef d.name d.params d.body d.scope pm cd doc) → s₁.heap.CodeRec cd d.name → mg d.name = some (.ref fa) →
      s₁.heap.get? a = some { cls := .type "list", data := .seq vs.toArray } → IntsAre vs ns → ns.length ≤ n → s₁.gens = #[] →
      codeAny (model l.prog w) callerA (.call (.ref fa) ⟨[.ref a], []⟩) (fun r s' => r = .ok (.ret (.bool true)) ∧ OldK s₁.heap s'.heap ∧ s'.os = s₁.os ∧ AllBare s'.gens) s₁) :
    WalkO q loose XP YP l.row.toRowW d [] (fun f vs => PySem.call f vs) := by
  intro w s₀ s₁ mg mb G Y fa o pm cd doc dV kV ho hd hcd hD hmg hg args vals as hpre hlay hrd hwl hlo
  obtain rfl : dV = .none := Dflts.none hD hdf
  obtain rfl : kV = .none := Dflts.noKw hD
  obtain ⟨a, vs, ns, rfl, rfl, hobj, hints, hlen⟩ := zd6 hn hpre hwl
  refine enter_call (codeAny_mono (call w s₀ s₁ mg mb fa o pm cd doc a vs ns G Y ho (fd_plain hd) hcd hmg hobj hints hlen hg) fun r s' hq => ?_)
  obtain ⟨rfl, h2, h3, h4⟩ := hq
  exact ⟨.inl ⟨.bool true, .bool true, [], rfl, fun _ => rfl, .bool true, zeG l _, fun _ => ⟨List.Pairwise.nil, fun _ hm => (nomatch hm)⟩⟩, h2, h3, h4⟩
section
variable {prog : Program} {w : World} {A : Around} {E : Value → Shared → Prop} {s : Shared} {K : Frag}
end
end Att
namespace L2
open PySem PySem.Spec PyProof.Rows
theorem yc1 : ∀ {vs : List Value} {ns : List Int}, IntsAre vs ns → Vals (ns.map V.int) vs
  | _, _, .nil => .nil
  | _, _, .cons n t h => .cons ⟨t, rfl⟩ (yc1 h)
noncomputable def Only (H : Hp) : Prop := ∀ b, H b = none ∨ ∃ o xs, H b = some (.frz o (.lst xs))
theorem ze9 {P : Program} {w : World} {K : PySem.W.Frag} {mg mb : Str → Option Value} {CX : CXT} {k : Nat} {fa a : Addr} {fd : FuncData} {x : Str} {sp : Sp} {s₁ : Shared} {vs : List Value} {ns : List Int}
    (KX : K.In s₁.heap) (hns : s₁.heap.Ns mainGlobals mg) (hb : s₁.heap.Ns builtinsNs mb) (hbb : ∀ x : Str, x ≠ "__name__" → mb x = bootBuiltins x) (hlim : s₁.heap.NoLimit) (hg : s₁.gens = #[])
    (ha : s₁.heap.get? a = some { cls := .type "list", data := .seq vs.toArray }) (hi : IntsAre vs ns) (hl : ns.length ≤ sizeLine) (hr : Room k callerA)
    (F : ∀ base : Heap, K.In base → base.Ns mainGlobals mg → FnOk P w K mg base CX k fa fd [x] sp) (hbind : ∀ (s : Shared) (u : Value), BindsTo s fd ⟨[u], []⟩ [(x, u)])
    (hsp : ∀ H : Hp, Only H → SqL K H a (ns.map V.int) → sp [.ref a] H (fun v _ => v = .bl true) fun _ _ _ => False)
    (hCX : ∀ H e s', CX [] H s₁ (fun _ _ _ => False) e s' → False) :
    codeAny (model P w) callerA (.call (.ref fa) ⟨[.ref a], []⟩) (fun r s' => r = .ok (.ret (.bool true)) ∧ OldK s₁.heap s'.heap ∧ s'.os = s₁.os ∧ AllBare s'.gens) s₁ := by
  have rv := yc1 hi
  have lenV := hi.length
  have core : ∀ H : Hp, Only H → SqL K H a (ns.map V.int) → HOk P w H s₁.heap → (∀ b, H b ≠ none → b = a) → (H a ≠ none → K.lookup a = none) →
      codeAny (model P w) callerA (.call (.ref fa) ⟨[.ref a], []⟩) (fun r s' => r = .ok (.ret (.bool true)) ∧ OldK s₁.heap s'.heap ∧ s'.os = s₁.os ∧ AllBare s'.gens) s₁ := by
    intro H hO hS hok hA hK
    have base_of : ∀ {b : Addr} {o : Obj}, s₁.heap.get? b = some o → H b = none → (hidT s₁.heap H).get? b = some o := fun e n => ze8 e n
    have noA : ∀ {b : Addr} {o : Obj} {es : Array DictEntry} {ep : Nat}, s₁.heap.get? b = some o → o.data = .dict es ep → H b = none := fun {b o es ep} e d => by
      cases q : H b with
      | none => rfl
      | some u =>
        have e' : b = a := hA b (by rw [q]; simp)
        subst e'
        rw [ha] at e; cases e
        have d' : Data.seq vs.toArray _ = Data.dict es ep := d
        cases d'
    have nsK : ∀ {b : Addr} {m : Str → Option Value}, s₁.heap.Ns b m → (hidT s₁.heap H).Ns b m := fun {b m} ⟨o, es, ep, e, d, r⟩ => ⟨o, es, ep, base_of e (noA e d), d, r⟩
    have hKb : K.In (hidT s₁.heap H) := fun b o e => base_of (KX b o e) (by
      cases q : H b with
      | none => rfl
      | some u =>
        have e' : b = a := hA b (by rw [q]; simp)
        subst e'
        rw [hK (by rw [q]; simp)] at e; cases e)
    have hM : Mod K mg (hidT s₁.heap H) := ⟨hKb, nsK hns, ⟨mb, nsK hb, hbb⟩, let ⟨mc, h1, h2⟩ := hlim; ⟨mc, nsK h1, h2⟩⟩
    have e0 : Env0 P w K mg (hidT s₁.heap H) callerA [] s₁ H := ⟨rfl, hM, fun b o e => yfC e, Nat.le_of_eq (zeP _ _), trivial, fun b hb => absurd (show b ∈ ([] : List Addr) from hb) (by simp), hok, .of_eq hg⟩
    refine codeAny_mono ((F _ hKb (nsK hns)).run callerA [] s₁ H ⟨[.ref a], []⟩ [.ref a] [.ref a] _ _ hr e0 (hbind s₁ (.ref a)) (.cons rfl .nil) (hsp H hO hS)) fun r s' h => ?_
    cases r with
    | error e => exact (hCX H e s' h).elim
    | ok fl =>
      cases fl with
      | next => exact False.elim h
      | brk => exact False.elim h
      | cont => exact False.elim h
      | ret u =>
        obtain ⟨v, H', os, bare, un, hok', r', q⟩ := h
        have q' : v = .bl true := q
        subst q'
        obtain rfl : u = Value.bool true := r'
        refine ⟨rfl, OldK.of_keep fun b o e => ?_, os, bare⟩
        cases q : H b with
        | none => exact un.keep b o e q (by intro z; exact absurd (show b ∈ ([] : List Addr) from z) (by simp)) (by simp)
        | some u =>
          rcases hO b with z | ⟨ob, xs, z⟩
          · rw [q] at z; cases z
          · have z2 := un.frzs b ob _ z
            obtain ⟨e1, _⟩ := hok b _ z
            obtain ⟨e2, _⟩ := hok' b _ z2
            rw [e] at e1; cases e1
            exact e2
  cases hk : K.lookup a with
  | some o =>
    have e := KX a o hk
    rw [ha] at e
    cases e
    refine core (fun _ => none) (fun _ => .inl rfl) (.inr ⟨_, vs.toArray, _, hk, rfl, rfl, rfl, by rw [List.size_toArray, lenV]; exact hl, by simpa using rv⟩) (fun b u z => by have z' : (none : Option HO) = some u := z; cases z') (fun b z => absurd rfl z) fun z => absurd rfl z
  | none =>
    refine core (fun b => if b = a then some (.frz { cls := .type "list", data := .seq vs.toArray } (.lst (ns.map V.int))) else none) (fun b => ?_) (.inl (.inr ⟨{ cls := .type "list", data := .seq vs.toArray }, if_pos rfl⟩)) (fun b u z => ?_) (fun b z => ?_) fun _ => hk
    · by_cases hb : b = a
      · exact .inr ⟨_, _, if_pos hb⟩
      · exact .inl (if_neg hb)
    · by_cases hb : b = a
      · have z' := (if_pos hb).symm.trans z
        cases z'
        subst hb
        exact ⟨ha, by rw [List.length_map]; exact hl, vs, _, rv, ha⟩
      · have z' := (if_neg hb).symm.trans z
        cases z'
    · by_cases hb : b = a
      · exact hb
      · exact absurd (if_neg hb) z
end L2
namespace L2
open PySem PySem.Spec PyProof.Rows
noncomputable abbrev KOf {K : PySem.W.Frag} {h : Heap} (_ : K.In h) : PySem.W.Frag := K
theorem walk_of {l : PySem.W.OpenLaw} {n k : Nat} {q : Program} {loose : List Str} {XP : (Str → Option Value) → Heap → Prop} {YP : World → Heap → Prop} {d : DefRec} {K : Params → PySem.W.Frag} {CX : World → CXT} {sp : World → Sp} {x : Str}
    (hn : l.most = some n) (hn2 : n ≤ sizeLine) (hdf : d.params.defaults = []) (hr : Room k callerA)
    (hY : ∀ (w : World) (h : Heap), YP w h → (K w.params).In h)
    (F : ∀ (w : World) (mg : Str → Option Value) (fa : Addr) (h : Heap), (K w.params).In h → h.Ns mainGlobals mg → mg d.name = some (.ref fa) →
      ∃ fd : FuncData, (∀ (s : Shared) (u : Value), BindsTo s fd ⟨[u], []⟩ [(x, u)]) ∧
        ∀ base : Heap, (K w.params).In base → base.Ns mainGlobals mg → FnOk l.prog w (K w.params) mg base (CX w) k fa fd [x] (sp w))
    (hsp : ∀ (w : World) (H : Hp) (a : Addr) (ns : List Int), ns.length ≤ n → Only H → SqL (K w.params) H a (ns.map V.int) → sp w [.ref a] H (fun v _ => v = .bl true) fun _ _ _ => False)
    (hCX : ∀ (w : World) (H : Hp) (s : Shared) (e : Value) (s' : Shared), CX w [] H s (fun _ _ _ => False) e s' → False) :
    PySem.W.WalkO q loose XP YP l.row.toRowW d [] (fun f vs => PySem.call f vs) := by
  refine Att.attach_call hn hdf fun w s₀ s₁ mg mb fa o pm cd doc a vs ns G Y ho hd hcd hmg hobj hints hlen hg => ?_
  have KX := hY w _ Y
  obtain ⟨fd, hb, hF⟩ := F w mg fa _ KX G.T.g hmg
  exact ze9 KX G.T.g G.T.b G.T.builtins G.T.nolimit hg hobj hints (Nat.le_trans hlen hn2) hr hF hb (fun H hO hS => hsp w H a ns hlen hO hS) fun H e s' => hCX w H s₁ e s'
end L2
namespace L2
open PySem PySem.Spec PyProof.Rows
noncomputable def ybO (s : Stmt) : Arguments := match s with
  | .FunctionDef _ a _ _ _ _ _ _ _ _ => a
  | _ => { posonlyargs := [], args := [], vararg := none, kwonlyargs := [], kw_defaults := [], kwarg := none, defaults := [] }
noncomputable def ybI (s : Stmt) : List Stmt := match s with
  | .FunctionDef _ _ b _ _ _ _ _ _ _ => b
  | _ => []
noncomputable def zae (s : Stmt) : Scope := match s with
  | .FunctionDef _ _ _ _ _ _ sc _ _ _ => sc
  | _ => { kind := .function, names := [], isGenerator := false, isCoroutine := false }
noncomputable abbrev CX0 : CXT := fun _ _ _ _ _ _ => False
noncomputable abbrev E0 : XK := fun _ _ _ => False
theorem ygi {X : Cx} : zej CX0 X E0 := fun _ _ _ _ _ _ _ h => h.elim
structure Fun (K : PySem.W.Frag) (x qual : Str) (st : Stmt) (f : Addr) (fd : FuncData) : Prop where
  ex : ∃ (oc : Value) (od : Option Addr) (kV doc pm : Value) (an : Option Addr) (cdv ct : Value) (osl : Array (Option Value)),
    fd = PySem.W.fnOf x qual (ybO st) (ybI st) (zae st) .none kV doc pm an cdv ct ∧ K.lookup f = some ⟨oc, od, .func fd, osl⟩ ∧ PySem.W.codeIn K cdv qual = true
  kp : PySem.W.keepIn K (.ref f) = true
section
variable {P : Program} {w : World} {K : PySem.W.Frag} {mg : Str → Option Value} {base : Heap}
theorem Fun.ok {x qual : Str} {st : Stmt} {f : Addr} {fd : FuncData} {N ps : List Str} {k : Nat} {sp : Sp} (F : Fun K x qual st f fd) (S : yaj N ps (zae st)) (len : ∀ vs H Q E, sp vs H Q E → vs.length = ps.length)
    (hbody : ∀ (cdv : Value) (A : Around) (outer : List Env) (s : Shared) (H : Hp) (vs : List V) (Q : VK) (E : XK), Room k (A.deeper (envOfC qual (zae st) s.heap.objs.size f cdv)) → sp vs H Q E →
      ∃ t, PSs (cxOf CX0 P w K mg base N qual (zae st) f cdv A outer s H E).nox (ybI st) t ∧ t { nx := fun _ H' => Q .non H', rt := Q } (yc7 N vs) H) : FnOk P w K mg base CX0 (k + 1) f fd ps sp := by
  obtain ⟨oc, od, kV, doc, pm, an, cdv, ct, osl, rfl, lk, hcd⟩ := F.ex
  refine zgf lk hcd S len fun A outer s H vs Q E hr hsp => ?_
  obtain ⟨t, h, q⟩ := hbody cdv A outer s H vs Q E hr hsp
  exact ⟨t, h.nox, q⟩
theorem Fun.binds {x qual : Str} {st : Stmt} {f : Addr} {fd : FuncData} {ps : List Str} (F : Fun K x qual st f fd)
    (h : ∀ (kV doc pm : Value) (an : Option Addr) (cdv ct : Value) (us : List Value), us.length = ps.length → bindArgs (PySem.W.fnOf x qual (ybO st) (ybI st) (zae st) .none kV doc pm an cdv ct) ⟨us, []⟩ = pure (ps.zip us)) : zdS K fd ps [] := by
  obtain ⟨oc, od, kV, doc, pm, an, cdv, ct, osl, rfl, lk, hcd⟩ := F.ex
  exact .all (h kV doc pm an cdv ct)
theorem zfo {x qual : Str} {st : Stmt} {f : Addr} {oc : Value} {od an : Option Addr} {osl : Array (Option Value)} {kV doc pm cdv ct : Value} (l : K.lookup f = some ⟨oc, od, .func (PySem.W.fnOf x qual (ybO st) (ybI st) (zae st) .none kV doc pm an cdv ct), osl⟩)
    (c : PySem.W.codeIn K cdv qual = true) (k : PySem.W.keepIn K (.ref f) = true) : Fun K x qual st f (PySem.W.fnOf x qual (ybO st) (ybI st) (zae st) .none kV doc pm an cdv ct) := ⟨⟨oc, od, kV, doc, pm, an, cdv, ct, osl, rfl, l, c⟩, k⟩
end
theorem yb0 {A : Around} {k : Nat} (hr : Room k A) : A.units + 1 < cLine := Nat.lt_of_le_of_lt (Nat.add_le_add_left (by decide : 1 ≤ 64) _) hr.units
theorem zak {n : Nat} (h : n ≤ 1000) : n < sizeLine := Nat.lt_of_le_of_lt h (by decide)
section
variable {X : Cx}
theorem pv (i : Nat) {x : Str} {pos : Pos} (hN : X.N[i]? = some x := by rfl) (hv : Vis X.env.scope x := by first | exact Or.inl rfl | exact Or.inr (Or.inl rfl) | exact Or.inr (Or.inr rfl)) (hd : (x == ("__debug__" : Str)) = false := by decide)
    (hcd : (x == ("__classdict__" : Str)) = false := by decide) : PE X (.Name x pos) (tVar i) := zfW hN hv hd hcd
end
theorem ite2 {c A B : Prop} [Decidable c] (h1 : c → A) (h2 : ¬ c → B) : if c then A else B := by
  by_cases h : c
  · rw [if_pos h]
    exact h1 h
  · rw [if_neg h]
    exact h2 h
noncomputable def Same (H H' : Hp) : Prop := ∀ b o, H b = some o → H' b = some o
theorem Same.refl (H : Hp) : Same H H := fun _ _ h => h
theorem Same.trans {H H1 H2 : Hp} (a : Same H H1) (b : Same H1 H2) : Same H H2 := fun c o h => b c o (a c o h)
theorem Same.free {H H' : Hp} (e : Same H H') {l : Addr} (h : H' l = Option.none) : H l = Option.none := by
  cases q : H l with
  | none => rfl
  | some o =>
    rw [e l o q] at h
    cases h
theorem Same.seq {K : PySem.W.Frag} {H H' : Hp} {a : Addr} {xs : List V} (e : Same H H') (h : SqL K H a xs) : SqL K H' a xs := by
  rcases h with (h | ⟨o, h⟩) | h
  · exact .inl (.inl (e _ _ h))
  · exact .inl (.inr ⟨o, e _ _ h⟩)
  · exact .inr h
end L2
end
section
-- text: PpDict
set_option Elab.async false
set_option linter.all false
set_option maxRecDepth 100000
namespace L2
open PySem PySem.Spec PyProof.Rows
section
variable {κ : Type} [DecidableEq κ]
noncomputable def valV (kvs : List (κ × V)) (k : κ) : Option V := (kvs.find? fun kv => decide (kv.1 = k)).map (·.2)
noncomputable def putK (kvs : List (κ × V)) (k : κ) (v : V) : List (κ × V) :=
  if (kvs.any fun kv => decide (kv.1 = k)) = true then kvs.map (fun kv => if kv.1 = k then (kv.1, v) else kv) else kvs ++ [(k, v)]
theorem ydI {p : κ × V} {r : List (κ × V)} {k : κ} (e : p.1 = k) : valV (p :: r) k = some p.2 := by simp [valV, List.find?_cons, e]
theorem zdI {p : κ × V} {r : List (κ × V)} {k : κ} (e : ¬ p.1 = k) : valV (p :: r) k = valV r k := by simp [valV, List.find?_cons, e]
theorem ydi (kvs : List (κ × V)) (k : κ) (v : V) : (putK kvs k v).length ≤ kvs.length + 1 := by
  unfold putK
  split
  · rw [List.length_map]; omega
  · rw [List.length_append, List.length_cons, List.length_nil]; omega
theorem KV.val {kvs : List (κ × V)} {vs : List (κ × Value)} (r : KV kvs vs) (k : κ) : RelO (valV kvs k) (valueAt vs k) := by
  unfold KV at r
  induction r with
  | nil => exact True.intro
  | @cons p q ps qs h t ih =>
    obtain ⟨h1, h2⟩ := h
    by_cases e : p.1 = k
    · have e' : q.1 = k := h1.symm.trans e
      have b : valueAt (q :: qs) k = some q.2 := by simp [valueAt, List.find?_cons, e']
      rw [ydI e, b]; exact h2
    · have e' : ¬ q.1 = k := fun z => e (h1.trans z)
      have b : valueAt (q :: qs) k = valueAt qs k := by simp [valueAt, List.find?_cons, e']
      rw [zdI e, b]; exact ih
theorem KV.any {kvs : List (κ × V)} {vs : List (κ × Value)} (r : KV kvs vs) (k : κ) : (kvs.any fun kv => decide (kv.1 = k)) = vs.any fun kv => decide (kv.1 = k) := by
  unfold KV at r
  induction r with
  | nil => rfl
  | cons h t ih => rw [List.any_cons, List.any_cons, ih, h.1]
theorem KV.repl {kvs : List (κ × V)} {vs : List (κ × Value)} (r : KV kvs vs) (k : κ) {y : V} {u : Value} (ry : RelV y u) :
    KV (kvs.map fun kv => if kv.1 = k then (kv.1, y) else kv) (vs.map fun kv => if kv.1 = k then (kv.1, u) else kv) := by
  unfold KV at r ⊢
  induction r with
  | nil => exact .nil
  | @cons p q ps qs h t ih =>
    rw [List.map_cons, List.map_cons]
    refine .cons ?_ ih
    obtain ⟨h1, h2⟩ := h
    by_cases e : p.1 = k
    · rw [if_pos e, if_pos (h1.symm.trans e)]; exact ⟨h1, ry⟩
    · rw [if_neg e, if_neg (fun z => e (h1.trans z))]; exact ⟨h1, h2⟩
theorem KV.put {kvs : List (κ × V)} {vs : List (κ × Value)} (r : KV kvs vs) (k : κ) {y : V} {u : Value} (ry : RelV y u) : KV (putK kvs k y) (stored vs k u) := by
  unfold putK stored
  rw [r.any k]
  by_cases e : (vs.any fun kv => decide (kv.1 = k)) = true
  · rw [if_pos e, if_pos e]; exact r.repl k ry
  · rw [if_neg e, if_neg e]; exact Paired.snoc r ⟨rfl, ry⟩
theorem KV.keys {kvs : List (κ × V)} {vs : List (κ × Value)} (r : KV kvs vs) : kvs.map (·.1) = vs.map (·.1) := by
  unfold KV at r
  induction r with
  | nil => rfl
  | cons h t ih => rw [List.map_cons, List.map_cons, ih, h.1]
end
theorem zeX {P : Program} {w : World} {k : Key} {u : Value} (r : RelV (kV k) u) : (zaz P w).is k u = true := by
  cases k with
  | inl i => obtain ⟨t, e⟩ := (show ∃ t, u = Value.int i t from r); subst e; exact ydm P w i t
  | inr x => obtain ⟨t, e⟩ := (show ∃ t, u = Value.str x t from r); subst e; exact zdv P w x t
theorem zdb {P : Program} {w : World} : ∀ {ks : List Key} {us : List Value}, Vals (ks.map kV) us → ItemsAre (zaz P w) ks us
  | [], _, r => by rw [List.map_nil] at r; cases r; exact .nil
  | k :: ks, _, r => by
    rw [List.map_cons] at r
    cases r with
    | cons h t => exact .cons (zeX h) (zdb t)
noncomputable abbrev KT (H : Hp) : List (List Key × V) → List (List Key × Addr × Value) → Prop := Paired fun p q => p.1 = q.1 ∧ H q.2.1 = some (.tup (p.1.map kV)) ∧ RelV p.2 q.2.2
theorem KT.val {H : Hp} {kvs : List (List Key × V)} {xs : List (List Key × Addr × Value)} (r : KT H kvs xs) (k : List Key) : RelO (valV kvs k) ((atKey xs k).map (·.2)) := by
  induction r with
  | nil => exact True.intro
  | @cons p q ps qs h t ih =>
    obtain ⟨h1, _, h2⟩ := h
    by_cases e : p.1 = k
    · have e' : q.1 = k := h1.symm.trans e
      have b : atKey (q :: qs) k = some q.2 := by simp [atKey, List.find?_cons, e']
      rw [ydI e, b]; exact h2
    · have e' : ¬ q.1 = k := fun z => e (h1.trans z)
      have b : atKey (q :: qs) k = atKey qs k := by simp [atKey, List.find?_cons, e']
      rw [zdI e, b]; exact ih
section
variable {P : Program} {w : World} {H : Hp} {h : Heap} {a : Addr}
theorem zfQ {u : HO} (ok : HOk P w H h) (e : Rd H a u) : ya7 P w H h a u := e.ok ok
theorem yfs {kvs : List (Key × V)} (ok : HOk P w H h) (e : Rd H a (.dK kvs)) : kvs.length ≤ sizeLine ∧ (a == sysModules) = false ∧ ∃ vs, KV kvs vs ∧ h.DictOf (zaz P w) a vs :=
  show ya7 P w H h a (.dK kvs) from zfQ ok e
theorem zgd {kvs : List (Key × V)} (ok : HOk P w H h) (e : H a = some (.dK kvs)) : kvs.length ≤ sizeLine ∧ (a == sysModules) = false ∧ ∃ vs, KV kvs vs ∧ h.DictOf (zaz P w) a vs := yfs ok (.inl e)
theorem zfn {ks : List Key} (ok : HOk P w H h) (e : H a = some (.tup (ks.map kV))) : (tupleKind (zaz P w)).is h ks a := by
  obtain ⟨_, its, r, o, h1, h2, n, h3⟩ := (show ya7 P w H h a (.tup (ks.map kV)) from ok a _ e)
  exact ⟨o, its.toArray, n, h1, h2, h3, by simpa using zdb r⟩
theorem zfR {kvs : List (List Key × V)} (ok : HOk P w H h) (e : Rd H a (.dT kvs)) : kvs.length ≤ sizeLine ∧ (a == sysModules) = false ∧
    ∃ xs, KT H kvs xs ∧ h.DictOfH (tupleKind (zaz P w)) a xs := by
  obtain ⟨z, y, xs, r, o, es, ep, h1, h2, h3, h4, h5⟩ := (show ya7 P w H h a (.dT kvs) from zfQ ok e)
  refine ⟨z, y, xs, r, o, es, ep, h1, h2, h3, h4, fun x hx => ?_, h5⟩
  have all : ∀ {l : List (List Key × V)} {m : List (List Key × Addr × Value)}, KT H l m → ∀ x ∈ m, (tupleKind (zaz P w)).is h x.1 x.2.1 := by
    intro l m q
    induction q with
    | nil => intro x hx; exact nomatch hx
    | @cons p q ps qs hq t ih =>
      intro x hx
      rcases List.mem_cons.mp hx with e | hx
      · subst e
        exact zfn ok (by rw [← hq.1]; exact hq.2.1)
      · exact ih x hx
  exact all r x hx
end
noncomputable def DGet (H : Hp) (a : Addr) (y : V) (r : Option V) : Prop :=
  (∃ kvs k, Rd H a (.dK kvs) ∧ y = kV k ∧ r = valV kvs k) ∨ ∃ kvs k b, Rd H a (.dT kvs) ∧ y = .ref b ∧ H b = some (.tup (k.map kV)) ∧ r = valV kvs k
theorem DGet.k {H : Hp} {a : Addr} {kvs : List (Key × V)} {k : Key} (e : H a = some (.dK kvs)) : DGet H a (kV k) (valV kvs k) := .inl ⟨kvs, k, .inl e, rfl, rfl⟩
section
variable {X : Cx} {pins : List (Addr × Obj)} {σ : St} {H : Hp} {s : Shared} {a : Addr} {y v : V} {u r : Value} {o : Option V} {A : Around} {E : Value → Shared → Prop}
theorem Inv.big (I : Inv X pins σ H s) : sysModules < s.heap.objs.size := by
  have h : mainGlobals < s.heap.objs.size := (I.mod.glob.keeps I.bk).lt
  exact Nat.lt_trans (by decide) h
theorem yep {Q : Value → Shared → Prop} (hu : A.units + 1 < cLine) (I : Inv X pins σ H s) (g : DGet H a y (some v)) (ry : RelV y u) (h : ∀ w' s', Inv X pins σ H s' → RelV v w' → Q w' s') :
    wpAny (model X.prog X.w) A (getItem (.ref a) u) Q E s := by
  rcases g with ⟨kvs, k, e, ey, l⟩ | ⟨kvs, k, b, e, ey, eb, l⟩
  · subst ey
    obtain ⟨z, hd, vs, rel, dd⟩ := yfs I.hok e
    obtain ⟨w', hw, rw'⟩ := RelO.some_of (v := v) (o := valueAt vs k) (by rw [l]; exact rel.val k)
    exact wpAny_getItem_of (zeX ry) dd.mapOf hw (h w' _ (I.tok _) rw')
  · subst ey
    cases (show u = Value.ref b from ry)
    obtain ⟨z, hd, xs, rel, dd⟩ := zfR I.hok e
    obtain ⟨w', hw, rw'⟩ := RelO.some_of (v := v) (o := (atKey xs k).map (·.2)) (by rw [l]; exact rel.val k)
    obtain ⟨p, hp, hp2⟩ := Option.map_eq_some_iff.mp hw
    refine wpAny_getItem_heap (tupleKind_room_in1 hu) (zfn I.hok eb) dd hp ?_
    rw [hp2]
    exact h w' _ (I.tok _) rw'
theorem yft {h' : Heap} {t' : Nat} {ob : HO} (I : Inv X pins σ H s) (mu : Mut (H a)) (hs : Heap.SameBut a s.heap h') (he : ∃ q, h'.get? a = some q) (new : ya7 X.prog X.w (upd H a ob) h' a ob) :
    Inv X pins σ (upd H a ob) { s with heap := h', toks := t' } :=
  I.write (x := a) (e := a) mu (.inl rfl) (fun b q hb z => (hs.2 b hb).trans z) he new
theorem zfO {P : Program} {w : World} {H' : Hp} {h' : Heap} {kvs : List (Key × V)} {vs : List (Key × Value)} (z : kvs.length ≤ sizeLine) (hd : (a == sysModules) = false) (rel : KV kvs vs) (dd : h'.DictOf (zaz P w) a vs) :
    ya7 P w H' h' a (.dK kvs) := ⟨z, hd, vs, rel, dd⟩
end
section
variable {X : Cx} {pins : List (Addr × Obj)} {σ : St} {H : Hp} {s : Shared} {a : Addr} {kvs : List (Key × V)} {k : Key} {u : Value} {A : Around} {E : Value → Shared → Prop}
end
noncomputable def NoSl (i : Expr) : Prop := ∀ ov iv, subscripted i false ov iv = operate [ov, iv] (getItem ov iv)
theorem yfy {prog : Program} {w : World} {A : Around} {E : Value → Shared → Prop} {s : Shared} {env : Env} {value slice : Expr} {pos : Pos} {T id : String} {Q : Value → Shared → Prop}
    (hl : typeLookup (.type T) "__getitem__" = pure (some (.builtin id))) (hs : NoSl slice)
    (h : wpAny (model prog w) A (eval value env) (fun o s₁ => wpAny (model prog w) A (eval slice env) (fun i s₂ => s₂.TypeIs o T ∧ wpAny (model prog w) A (getItem o i) Q E s₂) E s₁) E s) :
    wpAny (model prog w) A (eval (.Subscript value slice pos) env) Q E s := by
  refine Subscript_ (wpAny_mono h (fun o s₁ h₁ => wpAny_mono h₁ (fun i s₂ h₂ => ?_) fun _ _ x => x) fun _ _ x => x)
  obtain ⟨hT, h₂⟩ := h₂
  unfold subscriptTail
  refine wpAny_bind ?_
  rw [getitemInPython_of_ne hT.not_modules]
  refine wpAny_bind (wpAny_specialOf hT hl ?_)
  have fin : wpAny (model prog w) A (subscripted slice false o i) (fun r s₃ => wpAny (model prog w) A (letTemporaryGo value o r >>= fun _ => pure r) Q E s₃) E s₂ := by
    rw [hs o i]
    exact wpAny_operating (wpAny_mono h₂ (fun r s₃ h₃ => wpAny_bind (wpAny_letTemporaryGo (wpAny_pure h₃))) fun _ _ x => x)
  first
    | exact wpAny_pure (wpAny_bind fin)
    | exact wpAny_bind (wpAny_pure (wpAny_bind fin))
    | exact wpAny_bind fin
theorem ydj {X : Cx} {pins : List (Addr × Obj)} {σ : St} {H : Hp} {s : Shared} {a : Addr} {y : V} {o : Option V} (I : Inv X pins σ H s) (g : DGet H a y o) : s.TypeIs (.ref a) "dict" := by
  rcases g with ⟨kvs, k, e, _, _⟩ | ⟨kvs, k, b, e, _, _, _⟩
  · obtain ⟨_, _, vs, _, dd⟩ := yfs I.hok e
    exact dd.typeIs
  · obtain ⟨_, _, xs, _, dd⟩ := zfR I.hok e
    exact dd.typeIs
noncomputable def zgg (td ty : TE) : TE := fun σ H Q => td σ H fun x H1 => ty σ H1 fun y H2 => ∃ a v, x = .ref a ∧ DGet H2 a y (some v) ∧ Q v H2
section
variable {X : Cx} {o i e value : Expr} {pos pos' tpos : Pos} {td ty tv : TE}
theorem zaS (hu : X.A.units + 1 < cLine) (ho : PE X o td) (hi : PE X i ty) (hs : NoSl i) : PE X (.Subscript o i pos) (zgg td ty) := by
  intro pins s σ H Q I h
  refine yfy PySem.F.slot_dict_getitem.lookup hs (thn (ho pins s σ H _ I h) fun u s1 ⟨x, H1, I1, rx, q1⟩ => thn (hi pins s1 σ H1 _ I1 q1) fun iv s2 ⟨y, H2, I2, ry, a, v, ex, g, q2⟩ => ?_)
  subst ex
  obtain rfl : u = Value.ref a := rx
  exact ⟨ydj I2 g, yep hu I2 g ry fun w' s3 I3 rw' => ⟨v, H2, I3, rw', q2⟩⟩
end
theorem ze7 {P : Program} {w : World} {H : Hp} (h : Heap) (hb : sysModules < h.objs.size) : ya7 P w H (h.push { cls := .type "dict", data := .dict #[] }) h.objs.size (.dK []) :=
  ⟨Nat.zero_le _, beq_eq_false_iff_ne.mpr (Ne.symm (Nat.ne_of_lt hb)), [], .nil, Heap.DictOf.new h⟩
section
variable {X : Cx} {pos : Pos}
end
noncomputable def zeL : List (TE × TE) → St → Hp → (List (V × V) → Hp → Prop) → Prop
  | [], _, H, Q => Q [] H
  | (tk, tv) :: r, σ, H, Q => tk σ H fun x H1 => tv σ H1 fun y H2 => zeL r σ H2 fun ps H3 => Q ((x, y) :: ps) H3
noncomputable abbrev VV : List (V × V) → List (Value × Value) → Prop := Paired fun p q => RelV p.1 q.1 ∧ RelV p.2 q.2
noncomputable def PPs (X : Cx) (pos : Pos) (keys : List (Option Expr)) (values : List Expr) (trs : List (TE × TE)) : Prop :=
  ∀ (pins : List (Addr × Obj)) (s : Shared) (σ : St) (H : Hp) (Q : List (V × V) → Hp → Prop), Inv X pins σ H s → zeL trs σ H Q →
    wpAny (model X.prog X.w) X.A (evalPairs (pairTrees keys values X.env pos)) (fun vs s' => ∃ ps H', Inv X pins σ H' s' ∧ VV ps vs ∧ Q ps H') X.xe s
theorem zfJ {X : Cx} {pos : Pos} : PPs X pos [] [] [] := fun pins s σ H Q I h => pairTrees_nil_walk ⟨[], H, I, .nil, h⟩
theorem zbC {X : Cx} {pos : Pos} {k v : Expr} {ks : List (Option Expr)} {vs : List Expr} {tk tv : TE} {trs : List (TE × TE)} (hk : PE X k tk) (hv : PE X v tv) (hr : PPs X pos ks vs trs) :
    PPs X pos (some k :: ks) (v :: vs) ((tk, tv) :: trs) := fun pins s σ H Q I h =>
  pairTrees_cons_walk (thn (hk pins s σ H _ I h) fun u s1 ⟨x, H1, I1, rx, q1⟩ => thn (hv pins s1 σ H1 _ I1 q1) fun w2 s2 ⟨y, H2, I2, ry, q2⟩ =>
    thn (hr pins s2 σ H2 _ I2 q2) fun ws s3 ⟨ps, H3, I3, rel, q3⟩ => ⟨(x, y) :: ps, H3, I3, .cons ⟨rx, ry⟩ rel, q3⟩)
noncomputable def ycx (kvs more : List (Key × V)) : List (Key × V) := more.foldl (fun acc kv => putK acc kv.1 kv.2) kvs
theorem KV.merge : ∀ {more : List (Key × V)} {rs : List (Key × Value)} {kvs : List (Key × V)} {vs : List (Key × Value)}, KV more rs → KV kvs vs → KV (ycx kvs more) (merged vs rs) := by
  intro more rs kvs vs r
  unfold KV at r
  induction r generalizing kvs vs with
  | nil => intro q; exact q
  | @cons p q ps qs h t ih =>
    intro r0
    have e : KV (putK kvs p.1 p.2) (stored vs q.1 q.2) := by
      have := r0.put p.1 h.2
      rw [← h.1]; exact this
    exact ih e
theorem ybL : ∀ (more kvs : List (Key × V)), (ycx kvs more).length ≤ kvs.length + more.length
  | [], kvs => by show kvs.length ≤ kvs.length + 0; omega
  | p :: r, kvs => by
    have h1 := ybL r (putK kvs p.1 p.2)
    have h2 := ydi kvs p.1 p.2
    show (ycx (putK kvs p.1 p.2) r).length ≤ _
    rw [List.length_cons]; omega
theorem ycy {P : Program} {w : World} : ∀ {kvs : List (Key × V)} {ws : List (Value × Value)}, VV (kvs.map fun kv => (kV kv.1, kv.2)) ws → ∃ rs, Carries (zaz P w) ws rs ∧ KV kvs rs
  | [], _, r => by rw [List.map_nil] at r; cases r; exact ⟨[], True.intro, .nil⟩
  | p :: kvs, _, r => by
    rw [List.map_cons] at r
    cases r with
    | @cons a b as bs h t =>
      obtain ⟨rs, c, q⟩ := ycy (P := P) (w := w) t
      obtain ⟨b1, b2⟩ := b
      exact ⟨(p.1, b2) :: rs, ⟨zeX h.1, rfl, c⟩, .cons ⟨rfl, h.2⟩ q⟩
noncomputable def yf6 (trs : List (TE × TE)) : TE := fun σ H Q => ∀ p, H p = none → zeL trs σ (upd H p (.dK [])) fun ps H2 => H2 p = some (.dK []) ∧ ∃ kvs : List (Key × V), ps = kvs.map (fun kv => (kV kv.1, kv.2)) ∧ kvs.length ≤ 15 ∧ Q (.ref p) (upd H2 p (.dK (ycx [] kvs)))
theorem zfs {X : Cx} {pos : Pos} {keys : List (Option Expr)} {values : List Expr} {trs : List (TE × TE)} (h : PPs X pos keys values trs) (hall : keys.all (·.isSome) = true) (hl : keys.length = values.length) (h0 : keys ≠ [])
    (h15 : keys.length ≤ 15) : PE X (.Dict keys values pos) (yf6 trs) := by
  intro pins s σ H Q I q
  have hn := I.hok.fresh (Nat.le_refl s.heap.objs.size)
  have I1 := I.laid (a := s.heap.objs.size) (o := .dK []) (h' := s.heap.push { cls := .type "dict", data := .dict #[] }) (t' := s.toks) (fun _ _ q => Heap.get?_push_of_some _ q) (Nat.le_refl _) (ze7 s.heap I.big)
  refine wpAny_Dict_walk (knd := zaz X.prog X.w) hall hl h0 h15 (thn (h pins _ σ _ _ I1 (q _ hn)) fun ws s2 ⟨ps, H2, I2, rel, e, kvs, ep, lk, q2⟩ => ?_)
  subst ep
  obtain ⟨rs, c, rk⟩ := ycy (P := X.prog) (w := X.w) rel
  obtain ⟨z, hd, vs0, r0, dd⟩ := zgd I2.hok e
  cases r0
  refine ⟨rs, c, dd, fun h' dd' hs => ⟨.ref s.heap.objs.size, _, ?_, rfl, q2⟩⟩
  have hz : (ycx [] kvs).length ≤ sizeLine := by
    have h1 := ybL kvs []
    rw [List.length_nil] at h1
    rw [sizeLine_eq]; omega
  have he : ∃ q, h'.get? s.heap.objs.size = some q := let ⟨q, _, _, hq, _⟩ := dd'; ⟨q, hq⟩
  exact yft I2 (by rw [e]; exact True.intro) hs he (zfO hz hd (rk.merge .nil) dd')
structure M1 (X : Cx) (o : Expr) (m : Str) (apos : Pos) (e : Expr) (cpos : Pos) : Prop where
  base : attributeBase o m X.env (eval o X.env) = eval o X.env
  few : ((backTo cpos (starEach [e] X.env)).all (fun x => !x.1) && (backToKw cpos (keywordEach [] X.env)).all (fun x => x.1.isSome)
    && decide (([e] : List Expr).length + ([] : List Keyword).length + (if ([] : List Keyword).isEmpty then 0 else 1) < 30)) = true
  line : (apos.endLine == cpos.line) = true
  trees : backTo cpos (starEach [e] X.env) = [(false, eval e X.env)]
structure M2 (X : Cx) (o : Expr) (m : Str) (apos : Pos) (e f : Expr) (cpos : Pos) : Prop where
  base : attributeBase o m X.env (eval o X.env) = eval o X.env
  few : ((backTo cpos (starEach [e, f] X.env)).all (fun x => !x.1) && (backToKw cpos (keywordEach [] X.env)).all (fun x => x.1.isSome)
    && decide (([e, f] : List Expr).length + ([] : List Keyword).length + (if ([] : List Keyword).isEmpty then 0 else 1) < 30)) = true
  line : (apos.endLine == cpos.line) = true
  trees : backTo cpos (starEach [e, f] X.env) = [(false, eval e X.env), (false, eval f X.env)]
section
variable {X : Cx} {pins : List (Addr × Obj)} {σ : St} {H : Hp} {s : Shared} {a : Addr} {y d : V} {u r : Value} {o : Option V} {A : Around} {E : Value → Shared → Prop}
end
section
variable {X : Cx} {o e f : Expr} {apos cpos : Pos} {td ty tx : TE}
end
section
variable {X : Cx} {pins : List (Addr × Obj)} {σ : St} {H : Hp} {s : Shared} {a : Addr} {kvs : List (Key × V)} {A : Around} {E : Value → Shared → Prop}
end
section
variable {X : Cx} {pins : List (Addr × Obj)} {σ : St} {H : Hp} {s : Shared} {a : Addr} {y : V} {u : Value} {A : Around} {E : Value → Shared → Prop}
end
end L2
namespace L2
open PySem PySem.Spec PyProof.Rows
section
variable {X : Cx}
end
end L2
namespace L2
open PySem PySem.Spec PyProof.Rows
section
variable {κ : Type} [DecidableEq κ]
end
end L2
end
section
-- text: ExtA
set_option Elab.async false
set_option linter.all false
set_option maxRecDepth 100000
set_option maxHeartbeats 4000000
namespace L2
open PySem PySem.Spec PyProof.Rows
section
variable {prog : Program} {w : World} {A : Around} {R : Result → Shared → Prop} {s : Shared}
theorem zdm {elt target iter : Expr} {ifs : List Expr} {scope : Scope} {pos : Pos} {it acc : Value} {env : Env} (I : Nat → Shared → Prop)
    (turn : ∀ n s, I n s → wpAny (model prog w) A (pyNext it) (fun r s₁ => match r with
      | none => R (.ok .next) s₁
      | some v => wpAny (model prog w) A (letOwnedTupleGo target it v) (fun _ s₁' => wpAny (model prog w) A (assign target env v) (fun _ s₂ =>
          wpAny (model prog w) A (forIn ifs true fun c r => if r = true then do let ok ← isTrue c env (eval c env); pure (ForInStep.yield ok) else pure (ForInStep.yield r)) (fun ok s₃ =>
            if ok = true then wpAny (model prog w) A (eval elt env) (fun x s₄ =>
              wpAny (model prog w) A (call (.builtin "list.append") [acc, x]) (fun _ s₅ => ∃ m, m < n ∧ I m s₅) (fun _ _ => False) s₄) (fun _ _ => False) s₃
            else ∃ m, m < n ∧ I m s₃) (fun _ _ => False) s₂) (fun _ _ => False) s₁') (fun _ _ => False) s₁) (fun _ _ => False) s)
    (n : Nat) (h : I n s) : codeAny (model prog w) A (.compLoop (.ListComp elt [⟨target, iter, ifs, 0⟩] scope pos) 0 it acc env) R s := by
  refine codeAny_loop rfl I (fun n s hI => ?_) n h
  show wpAny _ A ((compTurn (.ListComp elt [⟨target, iter, ifs, 0⟩] scope pos) 0 it acc env).onRaise (fun x => do noteFrame x env; theTreesLotGoes x)) _ _ s
  refine wpAny_noted (wpAny_noRaise ?_)
  rw [compTurn_list]
  refine wpAny_bind (wpAny_standAt (wpAny_bind (wpAny_mono (turn n s hI) (fun r s₁ h₁ => ?_) fun _ _ h' => h')))
  cases r with
  | none => exact wpAny_pure h₁
  | some v =>
    refine wpAny_bind (wpAny_mono h₁ (fun _ s₁' h₁' => ?_) fun _ _ h' => h')
    refine wpAny_bind (wpAny_mono h₁' (fun _ s₂ h₂ => wpAny_bind (wpAny_mono h₂ (fun ok s₃ h₃ => ?_) fun _ _ h' => h')) fun _ _ h' => h')
    cases ok with
    | false => exact wpAny_pure ⟨rfl, h₃⟩
    | true =>
      exact wpAny_bind (wpAny_bind (wpAny_mono h₃ (fun x s₄ h₄ => wpAny_bind (wpAny_mono h₄ (fun _ s₅ h₅ => wpAny_pure (wpAny_pure ⟨rfl, h₅⟩)) fun _ _ h' => h')) fun _ _ h' => h'))
end
theorem yaH {α : Type} {x : Str} {k : α} : ∀ {l : List (Str × α)}, l.lookup x = some k → (x, k) ∈ l := fun h => PySem.mem_of_lookup h
theorem yaZ {scope : Scope} {env : Env} (h : ∀ x ∈ scope.names, x.2 = .free → ∃ c, env.cells.lookup x.1 = some c) :
    ∃ cl, closureFor scope env = pure cl ∧ (∀ n c, cl.lookup n = some c → env.cells.lookup n = some c) ∧ (∀ n, (n, NameKind.free) ∈ scope.names → ∃ c, cl.lookup n = some c) := by
  have aux : ∀ (names : List (Str × NameKind)) (cs : List (Str × Addr)), (∀ x ∈ names, x.2 = .free → ∃ c, env.cells.lookup x.1 = some c) → (∀ n c, cs.lookup n = some c → env.cells.lookup n = some c) →
      ∃ cl, (forIn names cs fun x r => if (x.2 == NameKind.free) = true then do let a ← cellOf env x.1; pure (ForInStep.yield ((x.1, a) :: r)) else pure (ForInStep.yield r) : Sem (List (Str × Addr))) = pure cl ∧
        (∀ n c, cl.lookup n = some c → env.cells.lookup n = some c) ∧ (∀ n, ((n, NameKind.free) ∈ names ∨ ∃ c, cs.lookup n = some c) → ∃ c, cl.lookup n = some c) := by
    intro names
    induction names with
    | nil => intro cs _ hc; exact ⟨cs, rfl, hc, fun n h => h.elim (fun z => nomatch z) id⟩
    | cons x r ih =>
      intro cs hx hc
      obtain ⟨n, k⟩ := x
      have hr : ∀ x ∈ r, x.2 = .free → ∃ c, env.cells.lookup x.1 = some c := fun y hy => hx y (List.mem_cons_of_mem _ hy)
      by_cases hk : k = .free
      · subst hk
        obtain ⟨c, e⟩ := hx (n, .free) List.mem_cons_self rfl
        have hc' : ∀ m d, List.lookup m ((n, c) :: cs) = some d → env.cells.lookup m = some d := fun m d hm => by
          rw [List.lookup_cons] at hm
          cases hb : m == n with
          | true => rw [hb] at hm; cases hm; rw [eq_of_beq hb]; exact e
          | false => rw [hb] at hm; exact hc m d hm
        obtain ⟨cl, h1, h2, h3⟩ := ih ((n, c) :: cs) hr hc'
        refine ⟨cl, ?_, h2, fun m hm => h3 m ?_⟩
        · rw [List.forIn_cons]
          have e2 : cellOf env n = pure c := by unfold cellOf; rw [e]
          simp only [beq_self_eq_true, if_true, e2]
          exact h1
        · rcases hm with hm | ⟨d, hm⟩
          · rcases List.mem_cons.mp hm with q | q
            · cases q; exact .inr ⟨c, by rw [List.lookup_cons, beq_self_eq_true]⟩
            · exact .inl q
          · refine .inr ?_
            rw [List.lookup_cons]
            cases hb : m == n with
            | true => exact ⟨c, rfl⟩
            | false => exact ⟨d, hm⟩
      · obtain ⟨cl, h1, h2, h3⟩ := ih cs hr hc
        refine ⟨cl, ?_, h2, fun m hm => h3 m ?_⟩
        · rw [List.forIn_cons]
          have : (k == NameKind.free) = false := by simpa using hk
          simp only [this, Bool.false_eq_true, if_false]
          exact h1
        · rcases hm with hm | hm
          · rcases List.mem_cons.mp hm with q | q
            · cases q; exact absurd rfl hk
            · exact .inl q
          · exact .inr hm
  obtain ⟨cl, h1, h2, h3⟩ := aux scope.names [] h (fun n c z => by simp at z)
  refine ⟨cl, ?_, h2, fun n hn => h3 n (.inl hn)⟩
  simp only [closureFor]
  rw [h1]
  rfl
theorem yaD {env : Env} : ∀ {names : List (Str × NameKind)} {x : Str} {k : NameKind},
    (names.map fun (n, k) => if (k == NameKind.free && env.scope.kind == .function && env.kindOf n == some .cell) then (n, NameKind.cell) else (n, k)).lookup x = some k → (k = .cell ∨ k = .free) →
    names.lookup x = some .free ∨ names.lookup x = some .cell
  | [], _, _, h, _ => by simp at h
  | (n, q) :: r, x, k, h, hk => by
    have ih := @yaD env r x k
    rw [List.map_cons, List.lookup_cons] at h
    rw [List.lookup_cons]
    by_cases hc : (q == NameKind.free && env.scope.kind == .function && env.kindOf n == some .cell) = true
    · simp only [if_pos hc] at h
      cases hx : x == n with
      | true =>
        have : q = .free := by
          have := (Bool.and_eq_true_iff.mp (Bool.and_eq_true_iff.mp hc).1).1
          exact eq_of_beq this
        simp [this]
      | false => rw [hx] at h; exact ih h hk
    · simp only [if_neg hc] at h
      cases hx : x == n with
      | true =>
        rw [hx] at h
        cases h
        rcases hk with rfl | rfl
        · exact .inr rfl
        · exact .inl rfl
      | false => rw [hx] at h; exact ih h hk
theorem ybu {env : Env} : ∀ {names : List (Str × NameKind)} {x : Str}, names.lookup x = some .free →
    (names.map fun (n, k) => if (k == NameKind.free && env.scope.kind == .function && env.kindOf n == some .cell) then (n, NameKind.cell) else (n, k)).lookup x = some .cell ∨
    (names.map fun (n, k) => if (k == NameKind.free && env.scope.kind == .function && env.kindOf n == some .cell) then (n, NameKind.cell) else (n, k)).lookup x = some .free
  | [], _, h => by simp at h
  | (n, q) :: r, x, h => by
    have ih := @ybu env r x
    rw [List.map_cons, List.lookup_cons]
    rw [List.lookup_cons] at h
    by_cases hc : (q == NameKind.free && env.scope.kind == .function && env.kindOf n == some .cell) = true
    · simp only [if_pos hc]
      cases hx : x == n with
      | true => exact .inl rfl
      | false => rw [hx] at h; exact ih h
    · simp only [if_neg hc]
      cases hx : x == n with
      | true => rw [hx] at h; cases h; exact .inr rfl
      | false => rw [hx] at h; exact ih h
noncomputable def cxC (X : Cx) (N : List Str) (scope : Scope) (cl : List (Str × Addr)) (C : Addr) (fp : List Addr) (s : Shared) (H : Hp) : Cx :=
  { prog := X.prog, w := X.w, K := X.K, mg := X.mg, base := X.base, A := X.A, N := N, s₀ := s, H₀ := H, env := compEnvC scope cl C X.env, outer := X.stack, stack := X.stack, ex := fp, fn := fun _ => false, calm := X.calm, pn := [], xe := fun _ _ => False }
structure CSc (M : List Str) (sc : Scope) (tg cp : List Str) (ci : List Nat) (scope : Scope) : Prop where
  kind : scope.kind = .function
  nocell : ∀ x ∈ scope.names, x.2 ≠ .cell
  loc : ∀ x ∈ scope.names, x.2 = .local → scope.names.lookup x.1 = some .local
  free : ∀ x ∈ scope.names, x.2 = .free → sc.names.lookup x.1 = some .cell ∨ sc.names.lookup x.1 = some .free
  cap : ∀ x ∈ cp, scope.names.lookup x = some .free
  at_ : ci.map (M[·]?) = cp.map some
  nd : (tg ++ cp).Nodup
noncomputable def capσ (k : Nat) (ci : List Nat) (σ : St) : St := List.replicate k none ++ ci.map fun i => (σ[i]?).join
noncomputable abbrev yeU := Nat → Nat → List V → Hp → Prop
noncomputable def yfz (wi : TI) (k : Nat) (ci : List Nat) (g : TG) (ti : TT) (te : TE) : TE := fun σ H Q => wi σ H fun J H1 => ∃ W : yeU, (∃ m, W 0 m [] H1) ∧ ∀ i m acc H, W i m acc H →
  (J.stop i H ∧ ∀ D, H D = none → Q (.ref D) (upd H D (.lst acc))) ∨
  (J.go i H ∧ acc.length < sizeLine ∧ ∃ N : List V → Hp → Prop, (∀ acc' H', N acc' H' → ∃ m', m' < m ∧ W (i + 1) m' acc' H') ∧ ∀ x H', J.yld i H x H' → g x (capσ k ci σ) H' fun σ2 H2 => ti σ2 H2 fun b H3 => if b = true then te σ2 H3 fun v H4 => N (acc ++ [v]) H4 else N acc H3)
noncomputable def PIfs (X : Cx) (ifs : List Expr) (t : TT) : Prop :=
  ∀ (pins : List (Addr × Obj)) (s : Shared) (σ : St) (H : Hp) (Q : Bool → Hp → Prop), Inv X pins σ H s → t σ H Q →
    wpAny (model X.prog X.w) X.A (forIn ifs true fun c r => if r = true then do let ok ← isTrue c X.env (eval c X.env); pure (ForInStep.yield ok) else pure (ForInStep.yield r)) (TP X pins σ Q) X.xe s
noncomputable def yf8 : TT := fun _ H Q => Q true H
theorem zaE {X : Cx} : PIfs X [] yf8 := fun pins s σ H Q I h => wpAny_tests_nil ⟨H, I, h⟩
theorem ybz {X : Cx} {c : Expr} {t : TT} (h : PT X c t) : PIfs X [c] t := fun pins s σ H Q I hq => wpAny_tests_one (h pins s σ H Q I hq)
section
variable {X : Cx}
structure Gone (X : Cx) (pins : List (Addr × Obj)) (H : Hp) (s : Shared) (C : Addr) : Prop where
  ns : ∃ m, s.heap.Ns C m
  free : H C = none
  ne : C ≠ X.env.locals
  ab : X.s₀.heap.objs.size ≤ C
  cells : ∀ x c, X.env.cells.lookup x = some c → c ≠ C
  pins : ∀ p ∈ X.pn ++ pins, p.1 ≠ C
  nofs : C ∉ X.fs
theorem ydL {elt target iter : Expr} {ifs : List Expr} {scope : Scope} {pos : Pos} {tg cp : List Str} {ci : List Nat} {wi : TI} {g : TG} {ti : TT} {te : TE}
    {pins : List (Addr × Obj)} {s : Shared} {σ : St} {H : Hp} {Q : VK} {cl : List (Str × Addr)}
    (S : CSc X.N X.env.scope tg cp ci scope) (hcalm : X.calm = true) (hi : PI X target iter wi)
    (hcl1 : ∀ n c, cl.lookup n = some c → X.env.cells.lookup n = some c) (hcl2 : ∀ n, (n, NameKind.free) ∈ scope.names → ∃ c, cl.lookup n = some c)
    (hg : ∀ C fp s H, PG (cxC X (tg ++ cp) scope cl C fp s H) target g) (ht : ∀ C fp s H, PIfs (cxC X (tg ++ cp) scope cl C fp s H) ifs ti) (he : ∀ C fp s H, PE (cxC X (tg ++ cp) scope cl C fp s H) elt te)
    (I : Inv X pins σ H s) (h : yfz wi tg.length ci g ti te σ H Q) :
    wpAny (model X.prog X.w) X.A (eval iter X.env) (fun x s₁ => wpAny (model X.prog X.w) X.A (pyIter x) (fun it s₂ => wpAny (model X.prog X.w) X.A (newList []) (fun acc s₃ =>
      wpAny (model X.prog X.w) X.A (newFunctionEnv scope X.env.globals cl [] X.env.qual none .none (some X.env)) (fun cenv s₄ =>
        codeAny (model X.prog X.w) X.A (.compStart (.ListComp elt [⟨target, iter, ifs, 0⟩] scope pos) 0 it acc { cenv with scope := relabel scope X.env })
          (fun r s' => ∃ D vs H', acc = .ref D ∧ r = .ok .next ∧ Inv X pins σ (upd H' D (.lst vs)) s' ∧ H' D = none ∧ Gone X pins (upd H' D (.lst vs)) s' cenv.locals ∧ ∀ D', H' D' = none → Q (.ref D') (upd H' D' (.lst vs))) s₄) X.xe s₃) X.xe s₂) X.xe s₁) X.xe s := by
  refine thn (hi pins s σ H _ I h) fun v s1 h1 => thn h1 fun itv s2 h2 => ?_
  obtain ⟨it, fp, tn, J, H2, e, I2, T, st2, f2, W, ⟨m0, w0⟩, turn⟩ := h2
  subst e
  refine wpAny_newObj_type (wpAny_newFunctionEnv S.nocell (by intro y hy; simp at hy) (fun h₁ hns₁ hsb₁ => ?_) S.kind)
  dsimp only at hns₁ hsb₁ ⊢
  generalize hHL : s2.heap.push { cls := .type "list", dict := none, data := .seq ([] : List Value).toArray } = HL at hns₁ hsb₁ ⊢
  have hC : HL.objs.size = s2.heap.objs.size + 1 := by rw [← hHL, Heap.size_push]
  generalize hD : s2.heap.objs.size = D at hC ⊢
  generalize hCC : HL.objs.size = C at hns₁ hsb₁ hC ⊢
  have hDC : D ≠ C := by omega
  have old : ∀ b o, s2.heap.get? b = some o → h₁.get? b = some o := fun b o e => by
    have lt : s2.heap.objs.size ≥ Nat.succ b := Heap.lt_size e
    refine hsb₁.extBut b o (show @Ne Nat b C by omega) (Heap.get?_push_of_some _ (hHL ▸ Heap.get?_push_of_some _ e))
  have hD1 : h₁.get? D = some { cls := .type "list", data := .seq ([] : List Value).toArray 0 } := by
    refine hsb₁.extBut D _ hDC (Heap.get?_push_of_some _ ?_)
    rw [← hHL, ← hD]
    exact Heap.get?_push_size _ rfl
  have fD : H2 D = none := I2.hok.fresh (by omega)
  have fC : H2 C = none := I2.hok.fresh (by omega)
  let X' : Cx := cxC X (tg ++ cp) scope cl C fp s2 H2
  have ok' : X'.Ok := by
    refine ⟨I2.ok.mod, ?_, I2.ok.glob, I2.ok.blt, ?_, ?_, ?_, ?_, I2.ok.hd, I2.ok.frames, .inl rfl, ?_, I2.bs, Nat.le_trans I2.ok.bsz I2.sz, ?_, ?_, I2.stack, I2.stkFree⟩
    · exact S.kind
    · show s2.heap.objs.size ≤ C; omega
    · intro x y c hx hy; exact I2.ok.inj x y c (hcl1 x c hx) (hcl1 y c hy)
    · intro x hx
      have hx' : (relabel scope X.env).names.lookup x = some .cell ∨ (relabel scope X.env).names.lookup x = some .free := hx
      have q : scope.names.lookup x = some .free ∨ scope.names.lookup x = some .cell := by
        rcases hx' with z | z
        · exact yaD z (.inl rfl)
        · exact yaD z (.inr rfl)
      rcases q with q | q
      · exact hcl2 x (yaH q)
      · exact absurd rfl (S.nocell _ (yaH q))
    · intro x c hx; cases hx
    · intro b hb
      obtain ⟨o, eo, _⟩ := T.obj _ _ st2 b hb
      have lt : s2.heap.objs.size ≥ Nat.succ b := Heap.lt_size eo
      exact ⟨by show @Ne Nat b C; omega, fun x c hx => (f2 b hb).2.2.2.2.1 x c (hcl1 x c hx)⟩
    · intro b o e hb
      rcases (f2 b hb).2.2.2.1 with z | z
      · exact I2.ok.noex b o e z
      · have l1 : X.base.objs.size ≥ Nat.succ b := Heap.lt_size e
        have l2 : X.base.objs.size ≤ X.s₀.heap.objs.size := I2.ok.bsz
        have l3 : X.s₀.heap.objs.size ≤ (b : Nat) := z
        omega
    · intro b hb hbs
      rcases List.mem_cons.mp (I2.stkSub b hbs) with z | z
      · exact (f2 b hb).2.1 z
      · exact (f2 b hb).2.2.1 z
  have capLen : (capσ tg.length ci σ).length = X'.N.length := by
    show (List.replicate tg.length none ++ ci.map fun i => (σ[i]?).join).length = (tg ++ cp).length
    have := congrArg List.length S.at_
    simp only [List.length_map] at this
    simp [this]
  have capLook : ∀ (h' : Heap) (m' : Str → Option Value), (∀ x c o, X.env.cells.lookup x = some c → s2.heap.get? c = some o → ∃ sl, h'.get? c = some { o with slots := sl }) →
      ∀ (i : Nat) (x : Str) (v : V), X'.N[i]? = some x → (capσ tg.length ci σ)[i]? = some (some v) → Vis X'.env.scope x → ∃ u, RelV v u ∧ Look X'.env h' m' x u := by
    intro h' m' hcell i x v e1 e2 e3
    have e1' : (tg ++ cp)[i]? = some x := e1
    have e2' : (List.replicate tg.length none ++ ci.map fun i => (σ[i]?).join)[i]? = some (some v) := e2
    by_cases hi' : i < tg.length
    · rw [List.getElem?_append_left (by simpa using hi'), List.getElem?_replicate] at e2'
      split at e2' <;> cases e2'
    · rw [List.getElem?_append_right (by simpa using hi'), List.length_replicate, List.getElem?_map] at e2'
      rw [List.getElem?_append_right (by omega)] at e1'
      cases hj : ci[i - tg.length]? with
      | none => rw [hj] at e2'; cases e2'
      | some j =>
        rw [hj] at e2'
        have e2'' : (σ[j]?).join = some v := Option.some.inj e2'
        have e4 : σ[j]? = some (some v) := by
          cases q : σ[j]? with
          | none => rw [q] at e2''; cases e2''
          | some z => rw [q] at e2''; exact congrArg some e2''
        have e5 : X.N[j]? = some x := by
          have := congrArg (·[i - tg.length]?) S.at_
          simp only [List.getElem?_map, hj, e1', Option.map_some] at this
          exact Option.some.inj this
        have hx : scope.names.lookup x = some .free := S.cap x (List.mem_of_getElem? e1')
        have hk := S.free (x, .free) (yaH hx) rfl
        obtain ⟨m, hn, hl⟩ := I2.loc
        obtain ⟨u, r, l⟩ := hl j x v e5 e4 (.inr hk)
        refine ⟨u, r, .inr ⟨?_, ?_⟩⟩
        · exact ybu hx
        · rcases l with ⟨k1, _⟩ | ⟨_, c, k2, k3⟩
          · have k1' : X.env.scope.names.lookup x = some .local := k1
            rcases hk with z | z <;> (rw [z] at k1'; cases k1')
          · obtain ⟨c', hc'⟩ := hcl2 x (yaH hx)
            have := hcl1 x c' hc'
            rw [k2] at this; cases this
            obtain ⟨o, ho, hd⟩ := k3
            obtain ⟨sl, q⟩ := hcell x c o k2 ho
            exact ⟨c, hc', _, q, hd⟩
  have I' : ∀ tk, Inv X' [] (capσ tg.length ci σ) H2 { s2 with heap := h₁, toks := tk } := fun tk => by
    refine ⟨ok', rfl, I2.bare, Un.kept old, ⟨_, hns₁, capLook _ _ fun x c o _ e => ⟨o.slots, old c o e⟩⟩, fun x c hx => ?_, fC, fun x c hx => I2.freeC x c (hcl1 x c hx), fun p hp => absurd (show p ∈ ([] : List (Addr × Obj)) from hp) (by simp), I2.hok.kept old, ?_⟩
    · obtain ⟨v, o, ho, hd⟩ := I2.cell x c (hcl1 x c hx)
      exact ⟨v, o, old c o ho, hd⟩
    · exact capLen
  have recap : ∀ {pl pl' : List (Addr × Obj)} {σ' : St} {H' : Hp} {s' : Shared}, Inv X' (pl ++ pl') σ' H' s' → Inv X' pl (capσ tg.length ci σ) H' s' := fun {pl pl' σ' H' s'} J => by
    obtain ⟨m, hn, _⟩ := J.loc
    have u : Un (frs X.stack) fp H2 H' s2.heap s'.heap := J.base
    exact ⟨J.ok, J.os, J.bare, J.base, ⟨m, hn, capLook _ _ fun x c o hx e => u.any e (I2.freeC x c hx) fun hb => (f2 c hb).2.2.2.2.1 x c hx rfl⟩, J.cell, J.free, J.freeC,
      fun p hp => (List.mem_append.mp hp).elim (fun z => J.pin p (List.mem_append_left _ z)) (fun z => J.pin p (List.mem_append_right _ (List.mem_append_left _ z))), J.hok, capLen⟩
  have stat : ∀ {H' : Hp}, (∀ b ∈ fp, H' b = none) → ∀ b ∈ fp, FpOk X' [] H' b := fun hn b hb => by
    obtain ⟨o, eo, _⟩ := T.obj _ _ st2 b hb
    have lt : s2.heap.objs.size ≥ Nat.succ b := Heap.lt_size eo
    exact ⟨hn b hb, by show @Ne Nat b C; omega, ok'.exfs b hb, .inl hb, (ok'.exf b hb).2, fun p hp => absurd (show p ∈ ([] : List (Addr × Obj)) from hp) (by simp)⟩
  have hDfp : D ∉ fp := fun hb => by obtain ⟨o, eo, _⟩ := T.obj _ _ st2 D hb; have lt : s2.heap.objs.size ≥ Nat.succ D := Heap.lt_size eo; omega
  have hDcell : ∀ x c, X'.env.cells.lookup x = some c → c ≠ D := fun x c hx => by
    obtain ⟨v, o, ho, hd⟩ := I2.cell x c (hcl1 x c hx)
    have lt : s2.heap.objs.size ≥ Nat.succ c := Heap.lt_size ho
    intro z; have z' : @Eq Nat c D := z; omega
  have hDfs : D ∉ X'.fs := fun hb => by
    have : D ∈ X.env.locals :: X.fs := I2.stkSub D hb
    rcases List.mem_cons.mp this with z | z
    · have l1 : s2.heap.objs.size ≥ Nat.succ X.env.locals := I2.lt
      have z' : @Eq Nat D X.env.locals := z
      omega
    · exact I2.nofs (show s2.heap.objs.size ≤ D by omega) z
  have fin : ∀ {pl : List (Addr × Obj)} {σ' : St} {H' : Hp} {s' : Shared} {vs : List V} {us : List Value} {k : Nat}, Inv X' pl σ' H' s' → H' D = none → s'.heap.get? D = some { cls := .type "list", data := .seq us.toArray k } → Vals vs us → vs.length ≤ sizeLine →
      (∀ D', H' D' = none → Q (.ref D') (upd H' D' (.lst vs))) →
      ∃ D' vs H', Value.ref D = .ref D' ∧ (Except.ok Flow.next : Result) = .ok .next ∧ Inv X pins σ (upd H' D' (.lst vs)) s' ∧ H' D' = none ∧ Gone X pins (upd H' D' (.lst vs)) s' C ∧ ∀ D', H' D' = none → Q (.ref D') (upd H' D' (.lst vs)) := by
    intro pl σ' H' s' vs us k J f e r z q
    have u : Un (frs X.stack) fp H2 H' s2.heap s'.heap := J.base
    have lt : ∀ {b : Addr} {o : Obj}, s2.heap.get? b = some o → b ≠ D := fun {b o} eb zb => by
      have l1 : s2.heap.objs.size ≥ Nat.succ b := Heap.lt_size eb
      have l2 : @Eq Nat b D := zb
      omega
    have u2 : Un (frs X.stack) fp H2 (upd H' D (.lst vs)) s2.heap s'.heap :=
      ⟨u.keep, u.slot, fun b o eb n hx => by rw [zag (lt eb)]; exact u.free b o eb n hx, u.there,
       fun b xs eb => by rw [zag (zaf eb fD)]; exact u.tups b xs eb, fun b o uu eb => by rw [zag (zaf eb fD)]; exact u.frzs b o uu eb, fun b ps eb => by rw [zag (zaf eb fD)]; exact u.tbls b ps eb⟩
    have hok2 : HOk X.prog X.w (upd H' D (.lst vs)) s'.heap := fun b o eb => by
      by_cases hb : b = D
      · subst hb
        rw [zac] at eb; cases eb
        exact ⟨z, us, k, r, e⟩
      · rw [zag hb] at eb
        refine (J.hok b o eb).stay (fun _ _ _ q => q) (fun c hc => ?_) fun c xs hc => ?_
        · rw [zag (fun zz => by rw [zz, f] at hc; cases hc)]; exact hc
        · rw [zag (fun zz => by rw [zz, f] at hc; cases hc)]; exact hc
    refine ⟨D, vs, H', rfl, rfl, I2.call' (ch := fp) J.os u2 hok2 J.bare ?_, f, ⟨?_, ?_, ?_, ?_, ?_, ?_, ?_⟩, q⟩
    · intro b hb
      obtain ⟨_, a2, _, a4, a5, a6⟩ := f2 b hb
      exact ⟨a4, a2, a5, a6⟩
    · obtain ⟨m, hn, _⟩ := J.loc; exact ⟨m, hn⟩
    · rw [zag (Ne.symm hDC)]; exact J.free
    · have l1 : s2.heap.objs.size ≥ Nat.succ X.env.locals := I2.lt
      intro zz; have zz' : @Eq Nat C X.env.locals := zz; omega
    · have l1 : X.s₀.heap.objs.size ≤ s2.heap.objs.size := I2.sz
      show X.s₀.heap.objs.size ≤ C; omega
    · intro x c hx zz
      obtain ⟨v, o, ho, hd⟩ := I2.cell x c hx
      have l1 : s2.heap.objs.size ≥ Nat.succ c := Heap.lt_size ho
      have zz' : @Eq Nat c C := zz
      omega
    · intro p hp zz
      have l1 : s2.heap.objs.size ≥ Nat.succ p.1 := Heap.lt_size (I2.pin p hp).1
      have zz' : @Eq Nat p.1 C := zz
      omega
    · exact I2.nofs (show s2.heap.objs.size ≤ C by omega)
  have loop : ∀ tk, codeAny (model X.prog X.w) X.A (.compLoop (.ListComp elt [⟨target, iter, ifs, 0⟩] scope pos) 0 (.ref it) (.ref D) (compEnvC scope cl C X.env))
      (fun r s' => ∃ D' vs H', Value.ref D = .ref D' ∧ r = .ok .next ∧ Inv X pins σ (upd H' D' (.lst vs)) s' ∧ H' D' = none ∧ Gone X pins (upd H' D' (.lst vs)) s' C ∧ ∀ D', H' D' = none → Q (.ref D') (upd H' D' (.lst vs))) { s2 with heap := h₁, toks := tk } := by
    intro tk
    refine zdm (fun n s' => ∃ i vs us k H', Inv X' [] (capσ tg.length ci σ) H' s' ∧ tn i s'.heap ∧ (∀ b ∈ fp, H' b = none) ∧ H' D = none ∧ s'.heap.get? D = some { cls := .type "list", data := .seq us.toArray k } ∧ Vals vs us ∧ vs.length ≤ sizeLine ∧ W i n vs H') ?_ m0
      ⟨0, [], [], 0, H2, I' tk, T.keep _ _ _ st2 (fun b hb o e => old b o e), fun b hb => (f2 b hb).1, fD, hD1, .nil, Nat.zero_le _, w0⟩
    rintro n s3 ⟨i, vs, us, k, H3, I3, st3, fr3, fD3, hD3, rv3, z3, w3⟩
    let pD : List (Addr × Obj) := [(D, { cls := .type "list", data := .seq us.toArray k })]
    have pinD : ∀ {σ' : St} {H' : Hp} {s' : Shared}, Inv X' [] σ' H' s' → H' D = none → s'.heap.get? D = some { cls := .type "list", data := .seq us.toArray k } → Inv X' pD σ' H' s' := fun {σ' H' s'} J f e =>
      J.pins_of fun p hp => by
        have : p = (D, { cls := .type "list", data := .seq us.toArray k }) := by simpa [pD] using hp
        subst this
        exact ⟨e, f, hDC, hDfs, fun v z => by cases z⟩
    have statD : ∀ {H' : Hp}, (∀ b ∈ fp, H' b = none) → ∀ b ∈ fp, FpOk X' pD H' b := fun hn b hb => by
      obtain ⟨a1, a2, a3, a4, a5, _⟩ := stat hn b hb
      refine ⟨a1, a2, a3, a4, a5, fun p hp => ?_⟩
      have : p = (D, { cls := .type "list", data := .seq us.toArray k }) := by
        have hp' : p ∈ ([] : List (Addr × Obj)) ++ pD := hp
        simpa [pD] using hp'
      subst this
      exact fun z => hDfp (by rw [show D = b from z]; exact hb)
    rcases turn i n vs H3 w3 with ⟨stop, qn⟩ | ⟨go, zl, N, hN, step⟩
    · refine thn (T.done X' rfl rfl rfl hcalm i pD s3 _ H3 _ (pinD I3 fD3 hD3) (statD fr3) st3 stop) fun r s4 ⟨hr, I4⟩ => ?_
      subst hr
      have eD : s4.heap.get? D = some { cls := .type "list", data := .seq us.toArray k } := (I4.pin (D, _) (by simp [pD])).1
      exact fin I4 fD3 eD rv3 z3 qn
    · refine thn (T.item X' rfl rfl rfl hcalm i pD s3 _ H3 _ (pinD I3 fD3 hD3) (statD fr3) st3 go) fun r s4 ⟨u, hr, h4⟩ => ?_
      subst hr
      refine thn h4 fun _ s5 ⟨x, H5, I5, r5, y5, st5, fr5⟩ => ?_
      have I5' := I5.pinned (statD fr5) (T.obj _ _ st5)
      refine thn (hg C fp s2 H2 _ s5 _ H5 x u _ I5' r5 (step x H5 y5)) fun _ s6 ⟨σ6, H6, I6, q6⟩ => ?_
      refine thn (ht C fp s2 H2 _ s6 σ6 H6 _ I6 q6) fun b s7 ⟨H7, I7, q7⟩ => ?_
      have again : ∀ {s8 : Shared} {H8 : Hp}, Inv X' (pD ++ ybZ fp s5.heap) σ6 H8 s8 → Inv X' pD (capσ tg.length ci σ) H8 s8 ∧ tn (i + 1) s8.heap ∧ (∀ b ∈ fp, H8 b = none) ∧ H8 D = none ∧ s8.heap.get? D = some { cls := .type "list", data := .seq us.toArray k } := fun {s8 H8} I8 => by
        have e8 := I8.pin (D, _) (List.mem_append_right _ (List.mem_append_left _ (by simp [pD] <;> rfl)))
        refine ⟨?_, T.keep _ _ _ st5 fun b hb o e => (I8.pin (b, o) (List.mem_append_right _ (List.mem_append_right _ (zaW hb e)))).1, fun b hb => ?_, e8.2.1, e8.1⟩
        · exact recap I8
        · obtain ⟨o, e, d⟩ := T.obj _ _ st5 b hb
          exact (I8.pin (b, o) (List.mem_append_right _ (List.mem_append_right _ (zaW hb e)))).2.1
      cases b with
      | false =>
        obtain ⟨m', hm, w7⟩ := hN _ _ q7
        obtain ⟨J, t7, f7, d7, e7⟩ := again I7
        exact ⟨m', hm, i + 1, vs, us, k, H7, J.pins_of (fun p hp => nomatch hp), t7, f7, d7, e7, rv3, z3, w7⟩
      | true =>
        simp only [if_true] at q7 ⊢
        refine thn (he C fp s2 H2 _ s7 σ6 H7 _ I7 q7) fun y s8 ⟨yv, H8, I8, r8, q8⟩ => ?_
        obtain ⟨m', hm, w8⟩ := hN _ _ q8
        obtain ⟨J, t8, f8, d8, e8⟩ := again I8
        refine call_meets F.slot_list_append ⟨_, e8, rfl⟩ F.entry_list_append (F.args_list_append_2 _ _) (PySem.list_append D us.toArray k y (by rw [List.size_toArray, ← rv3.length]; exact z3)) ⟨e8, ?_⟩
        have q := PySem.IsL.update e8 (·.push y)
        have J0 : Inv X' [] (capσ tg.length ci σ) H8 s8 := J.pins_of (fun p hp => nomatch hp)
        refine ⟨m', hm, i + 1, vs ++ [yv], us ++ [y], _, H8, J0.turned (it := D) (t' := s8.toks) (fun b o hb hu => (Heap.get?_update_other s8.heap _ (Ne.symm hb)).trans hu) d8 hDC (.inr (by show s2.heap.objs.size ≤ D; omega)) hDcell (fun p hp => absurd (show p ∈ ([] : List (Addr × Obj)) from hp) (by simp)), ?_, f8, d8, by simpa using q, rv3.append (.cons r8 .nil), by simp; omega, w8⟩
        exact T.keep _ _ _ t8 fun b hb o hu => (Heap.get?_update_other s8.heap _ (fun z => hDfp (by rw [z]; exact hb))).trans hu
  exact codeAny_compStart_list (loop _) (T.self X.A 0 _ _ _ (T.keep _ _ _ st2 (fun b hb o e => old b o e)) (loop _))
theorem Gone.turned {pins : List (Addr × Obj)} {σ : St} {H : Hp} {s : Shared} {C : Addr} {h' : Heap} (G : Gone X pins H s C) (I : Inv X pins σ H s) (hs : Heap.SameBut C s.heap h') : Inv X pins σ H { s with heap := h' } :=
  I.turned (t' := s.toks) (fun b o hb e => hs.extBut b o hb e) G.free G.ne (.inr G.ab) G.cells G.pins
theorem zaV {elt target iter : Expr} {ifs : List Expr} {scope : Scope} {pos : Pos} {tg cp : List Str} {ci : List Nat} {wi : TI} {g : TG} {ti : TT} {te : TE}
    (S : CSc X.N X.env.scope tg cp ci scope) (hcalm : X.calm = true) (hi : PI X target iter wi)
    (hg : ∀ cl C fp s H, PG (cxC X (tg ++ cp) scope cl C fp s H) target g) (ht : ∀ cl C fp s H, PIfs (cxC X (tg ++ cp) scope cl C fp s H) ifs ti) (he : ∀ cl C fp s H, PE (cxC X (tg ++ cp) scope cl C fp s H) elt te)
    (hs : ∀ x, foldedSetIterable iter X.env x = pure x := by intro _; rfl) : PE X (.ListComp elt [⟨target, iter, ifs, 0⟩] scope pos) (yfz wi tg.length ci g ti te) := by
  intro pins s σ H Q I h
  obtain ⟨cl, hclos, h1, h2⟩ := yaZ (scope := scope) (env := X.env) fun x hx hf => I.ok.has x.1 (S.free x hx hf)
  rw [eval_ListComp]
  refine wpAny_comprehension_free (use := none) rfl hs hclos S.kind S.loc (thn (ydL S hcalm hi h1 h2 (hg cl) (ht cl) (he cl) I h) fun x s1 q1 => thn q1 fun it s2 q2 => thn q2 fun acc s3 q3 => thn q3 fun cenv s4 q4 => codeAny_mono q4 fun r s' q => ?_)
  obtain ⟨D, vs, H', e1, e2, I', f, G, q⟩ := q
  subst e1 e2
  obtain ⟨m, hn⟩ := G.ns
  exact ⟨m, hn, fun h' hsb => ⟨.ref D, _, G.turned I' hsb, rfl, q D f⟩⟩
theorem ybg {i : Nat} {y : Str} {py : Pos} {elt target iter : Expr} {ifs : List Expr} {scope : Scope} {pos spos : Pos} {tg cp : List Str} {ci : List Nat} {wi : TI} {g : TG} {ti : TT} {te : TE}
    (hN : X.N.Nodup) (hi' : X.N[i]? = some y) (hy : Loc X.env.scope y)
    (S : CSc X.N X.env.scope tg cp ci scope) (hcalm : X.calm = true) (hi : PI X target iter wi)
    (hg : ∀ cl C fp s H, PG (cxC X (tg ++ cp) scope cl C fp s H) target g) (ht : ∀ cl C fp s H, PIfs (cxC X (tg ++ cp) scope cl C fp s H) ifs ti) (he : ∀ cl C fp s H, PE (cxC X (tg ++ cp) scope cl C fp s H) elt te)
    (hsw : swapsWith (.ListComp elt [⟨target, iter, ifs, 0⟩] scope pos) (some (.Name y py)) spos.line X.env = pure true := by rfl)
    (hs : ∀ x, foldedSetIterable iter X.env x = pure x := by intro _; rfl) (hf : X.fn y = true ∨ X.env.scope.names.lookup y = some .local := by first | exact .inl rfl | exact .inr rfl | assumption) :
    PS X (.Assign [.Name y py] (.ListComp elt [⟨target, iter, ifs, 0⟩] scope pos) spos) (tAsg (yfz wi tg.length ci g ti te) (yaC i)) := by
  intro pins s σ H D I h
  obtain ⟨cl, hclos, h1, h2⟩ := yaZ (scope := scope) (env := X.env) fun x hx hf => I.ok.has x.1 (S.free x hx hf)
  rw [exec_Assign_Name_used _ _ _ _ hsw]
  refine wpAny_bind (wpAny_standAt (wpAny_bind ?_))
  show wpAny _ X.A (do let _ ← comprehension (.ListComp elt [⟨target, iter, ifs, 0⟩] scope pos) scope X.env _ (newList []) false (eval iter X.env) (some (assign (.Name y py) X.env))) _ _ s
  refine wpAny_bind (wpAny_mono (wpAny_comprehension_free (use := some (assign (.Name y py) X.env)) (Q := fun _ s' => SP X pins D .next s') rfl hs hclos S.kind S.loc
    (thn (ydL S hcalm hi h1 h2 (hg cl) (ht cl) (he cl) I h) fun x s1 q1 => thn q1 fun it s2 q2 => thn q2 fun acc s3 q3 => thn q3 fun cenv s4 q4 => codeAny_mono q4 fun r s' q => ?_)) (fun _ s' hq => wpAny_pure (wpAny_pure hq)) fun _ _ e => e)
  obtain ⟨D', vs, H', e1, e2, I', f, G, q⟩ := q
  subst e1 e2
  show wpAny _ X.A (assign (.Name y py) X.env (.ref D')) _ _ _
  obtain ⟨m, o, es, ep, ho, hd, hk⟩ := G.ns
  have pin : Inv X ((cenv.locals, o) :: pins) σ (upd H' D' (.lst vs)) s' := I'.pins_of fun p hp => by
    rcases List.mem_cons.mp hp with z | z
    · subst z
      exact ⟨ho, G.free, G.ne, G.nofs, fun v z => by rw [hd] at z; cases z⟩
    · exact I'.pin p (List.mem_append_right _ z)
  refine wpAny_assign_Name (zaU (v := V.ref D') pin hN hi' hy (show RelV (.ref D') (.ref D') from rfl) (fun s2 I2 => ?_) hf)
  have I3 : Inv X pins (σ.set i (some (.ref D'))) (upd H' D' (.lst vs)) s2 := I2.pins_of fun p hp => I2.pin p (List.mem_append_right _ (List.mem_cons_of_mem _ hp))
  have e2 := I2.pin (cenv.locals, o) (List.mem_append_right _ List.mem_cons_self)
  have G2 : Gone X pins (upd H' D' (.lst vs)) s2 cenv.locals := ⟨⟨m, o, es, ep, e2.1, hd, hk⟩, G.free, G.ne, G.ab, G.cells, G.pins, G.nofs⟩
  exact ⟨m, ⟨o, es, ep, e2.1, hd, hk⟩, fun h' hsb => ⟨_, _, G2.turned I3 hsb, q D' f⟩⟩
end
end L2
end
section
-- text: ExtB
set_option Elab.async false
set_option linter.all false
set_option maxRecDepth 100000
set_option maxHeartbeats 4000000
namespace L2
open PySem PySem.Spec PyProof.Rows
structure zcL (P : Program) (w : World) (A : Around) (a : Addr) (dep : List Addr) (ok : Nat → Heap → Prop) (val : Nat → Option Value) : Prop where
  mem : a ∈ dep
  obj : ∀ k h, ok k h → ∃ o, h.get? a = some o ∧ (∀ v, o.data ≠ .cell v) ∧ o.cls ≠ .type "zip" ∧ o.cls ≠ .type "enumerate" ∧ o.cls ≠ .type "tuple"
  keep : ∀ k h h', ok k h → (∀ b ∈ dep, ∀ o, h.get? b = some o → h'.get? b = some o) → ok k h'
  item : ∀ k x (s : Shared) (Q : Value → Shared → Prop) (E : Value → Shared → Prop), ok k s.heap → val k = some x → (∀ h', ok (k + 1) h' → Heap.SameBut a s.heap h' → Q x { s with heap := h' }) →
    wpAny (model P w) A (Builtin.SmallTypes.nextOf (.ref a)) Q E s
  stop : ∀ k (s : Shared) (Q : Value → Shared → Prop) (E : Value → Shared → Prop), ok k s.heap → val k = none →
    (∀ h' e, Heap.ExtBut a s.heap h' → (∃ o, h'.get? e = some o ∧ o.cls = .type "StopIteration") → E (.ref e) { s with heap := h' }) → wpAny (model P w) A (Builtin.SmallTypes.nextOf (.ref a)) Q E s
section
variable {P : Program} {w : World} {A : Around}
theorem zfy {a l : Addr} {xs : Array Value} (hh : A.handled = none) (ne : l ≠ a) : zcL P w A a [a, l] (fun k h => h.IsListIter a l k ∧ h.IsList l xs) (fun k => xs[k]?) where
  mem := List.mem_cons_self
  obj := fun k h z => by
    obtain ⟨⟨o, e, c, d⟩, _⟩ := z
    exact ⟨o, e, fun v q => (by rw [d] at q; cases q), (by rw [c]; decide), (by rw [c]; decide), (by rw [c]; decide)⟩
  keep := fun k h h' z q => ⟨z.1.at fun o e => q a (by simp) o e, z.2.at fun o e => q l (by simp) o e⟩
  item := fun k x s Q E z e q => wpAny_nextOf_list_item z.1 z.2 e fun h' h1 h2 => q h' ⟨h1, z.2.extBut h2.extBut ne⟩ h2
  stop := fun k s Q E z e q => wpAny_nextOf_list_end hh z.1 z.2 e q
theorem zcB {h h' : Heap} {a l : Addr} {k : Nat} (x : h.IsTupleIter a l k) (e : ∀ o, h.get? a = some o → h'.get? a = some o) : h'.IsTupleIter a l k := let ⟨o, ho, r⟩ := x; ⟨o, e _ ho, r⟩
theorem yfd {h h' : Heap} {a : Addr} {xs : Array Value} (x : h.IsTuple a xs) (e : ∀ o, h.get? a = some o → h'.get? a = some o) : h'.IsTuple a xs := let ⟨o, ho, r⟩ := x; ⟨o, e _ ho, r⟩
theorem yfW {a l : Addr} {xs : Array Value} (hh : A.handled = none) (ne : l ≠ a) : zcL P w A a [a, l] (fun k h => h.IsTupleIter a l k ∧ h.IsTuple l xs) (fun k => xs[k]?) where
  mem := List.mem_cons_self
  obj := fun k h z => by
    obtain ⟨⟨o, e, c, d⟩, _⟩ := z
    exact ⟨o, e, fun v q => (by rw [d] at q; cases q), (by rw [c]; decide), (by rw [c]; decide), (by rw [c]; decide)⟩
  keep := fun k h h' z q => ⟨zcB z.1 fun o e => q a (by simp) o e, yfd z.2 fun o e => q l (by simp) o e⟩
  item := fun k x s Q E z e q => by
    obtain ⟨o, ho, hc, hd⟩ := id z.1
    obtain ⟨ol, hol, _, nl, hdl⟩ := id z.2
    unfold Builtin.SmallTypes.nextOf
    refine wpAny_bind (wpAny_callSpecial?_slot (name := Str.ofString "__next__") z.1.typeIs F.slot_tuple_iterator_next (wpAny_call_entry F.slot_tuple_iterator_next z.1.typeIs F.entry_tuple_iterator_next ?_ (F.args_tuple_iterator_next_1 _)))
    show wpAny _ _ (field (.ref a) 0 >>= _) _ _ s; refine wpAny_bind (wpAny_field ho hd (x := .ref l) rfl ?_)
    show wpAny _ _ (if (Value.ref l == Value.none) = true then _ else _) _ _ s; rw [if_neg (show ¬ ((Value.ref l == Value.none) = true) from Bool.false_ne_true)]
    show wpAny _ _ (field (.ref a) 1 >>= _) _ _ s; refine wpAny_bind (wpAny_field ho hd (x := .int k 0) rfl ?_)
    show wpAny _ _ (seqItems? (.ref l) >>= _) _ _ s; refine wpAny_bind (wpAny_seqItems hol hdl ?_)
    simp only [Int.toNat_natCast, e]
    refine wpAny_bind (wpAny_setField ho hd (by simp) (wpAny_pure ⟨x, rfl, wpAny_pure (q _ ⟨?_, z.2.extBut (Heap.SameBut.update ..).extBut ne⟩ (Heap.SameBut.update ..))⟩))
    exact ⟨_, Heap.get?_update_self _ ho (Obj.isFreed_of_fields (Obj.data_mapFields hd _)), (Obj.cls_mapFields ..).trans hc, by rw [Obj.data_mapFields hd]; simp [rawInt]⟩
  stop := fun k s Q E z e q => by
    obtain ⟨o, ho, hc, hd⟩ := id z.1
    obtain ⟨ol, hol, _, nl, hdl⟩ := id z.2
    unfold Builtin.SmallTypes.nextOf
    refine wpAny_bind (wpAny_callSpecial?_slot (name := Str.ofString "__next__") z.1.typeIs F.slot_tuple_iterator_next (wpAny_call_entry F.slot_tuple_iterator_next z.1.typeIs F.entry_tuple_iterator_next ?_ (F.args_tuple_iterator_next_1 _)))
    show wpAny _ _ (field (.ref a) 0 >>= _) _ _ s; refine wpAny_bind (wpAny_field ho hd (x := .ref l) rfl ?_)
    show wpAny _ _ (if (Value.ref l == Value.none) = true then _ else _) _ _ s; rw [if_neg (show ¬ ((Value.ref l == Value.none) = true) from Bool.false_ne_true)]
    show wpAny _ _ (field (.ref a) 1 >>= _) _ _ s; refine wpAny_bind (wpAny_field ho hd (x := .int k 0) rfl ?_)
    show wpAny _ _ (seqItems? (.ref l) >>= _) _ _ s; refine wpAny_bind (wpAny_seqItems hol hdl ?_)
    simp only [Int.toNat_natCast, e]
    refine wpAny_bind (wpAny_rule (wpAny_bind (wpAny_setField ho hd (by simp) ?_)))
    show wpAny _ _ (newExc (.type "StopIteration") [] >>= _) _ _ _; refine wpAny_bind ?_
    simp only [newExc, newTuple]
    refine wpAny_bind (wpAny_newObj_type ?_ (by size_fits))
    refine wpAny_bind (m := firstArgMember _ _) (wpAny_of_eq (a := Value.none) (by first | rfl | (simp only [firstArgMember]; rfl)) (wpAny_newObj_type ?_ (by size_fits)))
    simp only [raiseNew]
    refine wpAny_bind (wpAny_handled ?_)
    first | rw [show A.in1.handled = none from hh] | rw [hh]
    exact wpAny_bind (wpAny_pure (wpAny_throw (q _ _ (((Heap.SameBut.update ..).extBut.push _).push _) ⟨_, Heap.get?_push_size _ rfl, rfl⟩)))
end
structure ZAp (z TI TO : Addr) (d1 d2 : List Addr) (i1 i2 : Addr) : Prop where
  a1 : TI ≠ z
  a2 : TO ≠ z
  a3 : TI ≠ TO
  b1 : z ∉ d1
  b2 : z ∉ d2
  b3 : TO ∉ d1
  b4 : TO ∉ d2
  b5 : TI ≠ i1
  b6 : TI ≠ i2
  c1 : i1 ∉ d2
  c2 : i2 ∉ d1
section
variable {P : Program} {w : World} {A : Around} {s : Shared} {z TI TO i1 i2 : Addr} {d1 d2 : List Addr} {ok1 ok2 : Nat → Heap → Prop} {v1 v2 : Nat → Option Value}
theorem zcL.ext (S : zcL P w A i1 d1 ok1 v1) {k : Nat} {h h' : Heap} {b : Addr} (o : ok1 k h) (e : Heap.ExtBut b h h') (n : b ∉ d1) : ok1 k h' := S.keep k h h' o fun c hc ob eb => e c ob (fun q => n (q ▸ hc)) eb
theorem zeq {k : Nat} {x y p q : Value} {Q : Value → Shared → Prop} {E : Value → Shared → Prop} (D : ZAp z TI TO d1 d2 i1 i2) (S1 : zcL P w A i1 d1 ok1 v1) (S2 : zcL P w A i2 d2 ok2 v2)
    (hz : IsZip s.heap z TI TO .none) (hI : IsPair s.heap TI (.ref i1) (.ref i2)) (hO : IsPair s.heap TO p q) (o1 : ok1 k s.heap) (o2 : ok2 k s.heap) (e1 : v1 k = some x) (e2 : v2 k = some y)
    (hQ : ∀ g, IsZip g z TI TO (rawInt s.heap.objs.size) → IsPair g TO x y → ok1 (k + 1) g → ok2 (k + 1) g → IsPair g s.heap.objs.size x y → (∀ c o, c ≠ z → c ≠ TO → c ≠ i1 → c ≠ i2 → s.heap.get? c = some o → g.get? c = some o) → Q (.ref s.heap.objs.size) { s with heap := g }) :
    wpAny (model P w) A (Builtin.«zip.__next__» ⟨[.ref z], []⟩) (fun fin s' => ∃ v, fin = .done (.ret v) ∧ Q v s') E s := by
  have n1z : i1 ≠ z := fun e => D.b1 (e ▸ S1.mem)
  have n2z : i2 ≠ z := fun e => D.b2 (e ▸ S2.mem)
  have n1O : i1 ≠ TO := fun e => D.b3 (e ▸ S1.mem)
  have n2O : i2 ≠ TO := fun e => D.b4 (e ▸ S2.mem)
  show wpAny _ _ (field (.ref z) 2 >>= _) _ E s; refine wpAny_bind (wpAny_field hz rfl (x := .bool false) rfl ?_)
  show wpAny _ _ (field (.ref z) 3 >>= _) _ E s; refine wpAny_bind (wpAny_field hz rfl (x := .ref TI) rfl (wpAny_bind (wpAny_seqItems hI rfl ?_)))
  show wpAny _ _ (Builtin.SmallTypes.ownedTupleIsFree (.ref z) >>= _) _ E s; refine wpAny_bind ?_
  unfold Builtin.SmallTypes.ownedTupleIsFree
  refine wpAny_bind (wpAny_field hz rfl (x := .none) rfl (wpAny_pure ?_))
  simp only [if_true]
  refine wpAny_bind (wpAny_rule (wpAny_bind (wpAny_field hz rfl (x := .ref TO) rfl (wpAny_bind (wpAny_setField_rec hz (by simp) fun g1 hz1 t1 => ?_)))))
  replace hz1 : IsZip g1 z TI TO .ellipsis := hz1
  refine wpAny_bind ?_
  simp only [List.zipIdx_cons, List.zipIdx_nil, List.forIn_cons, List.forIn_nil]
  refine wpAny_bind (wpAny_bind (wpAny_onRaise ?_)); show wpAny _ _ (Builtin.SmallTypes.nextOf (.ref i1) >>= _) _ _ _; refine (wpAny_bind (S1.item k x _ _ _ (S1.ext o1 t1.extBut D.b1) e1 fun g2 o12 t2 => wpAny_pure ?_))
  have hO2 : IsPair g2 TO p q := t2.extBut _ _ (Ne.symm n1O) (t1.extBut _ _ D.a2 hO)
  refine wpAny_bind (wpAny_seqItems hO2 rfl (wpAny_bind (wpAny_updateSeq_pair hO2 fun g3 hO3 t3 => ?_)))
  replace hO3 : IsPair g3 TO x q := hO3
  refine wpAny_bind (wpAny_letGo (wpAny_pure ?_))
  have o23 : ok2 k g3 := S2.ext (S2.ext (S2.ext o2 t1.extBut D.b2) t2.extBut D.c1) t3.extBut D.b4
  refine wpAny_bind (wpAny_bind (wpAny_onRaise ?_)); show wpAny _ _ (Builtin.SmallTypes.nextOf (.ref i2) >>= _) _ _ _; refine (wpAny_bind (S2.item k y _ _ _ o23 e2 fun g4 o24 t4 => wpAny_pure ?_))
  have hO4 : IsPair g4 TO x q := t4.extBut _ _ (Ne.symm n2O) hO3
  refine wpAny_bind (wpAny_seqItems hO4 rfl (wpAny_bind (wpAny_updateSeq_pair hO4 fun g5 hO5 t5 => ?_)))
  replace hO5 : IsPair g5 TO x y := hO5
  refine wpAny_bind (wpAny_letGo (wpAny_pure (wpAny_pure ?_)))
  refine wpAny_bind (wpAny_seqItems hO5 rfl (wpAny_bind (wpAny_newTuple ?_)))
  have sz : g5.objs.size = s.heap.objs.size := by rw [t5.1, t4.1, t3.1, t2.1, t1.1]
  have hz5 : IsZip g5 z TI TO .ellipsis := t5.extBut _ _ (Ne.symm D.a2) (t4.extBut _ _ (Ne.symm n2z) (t3.extBut _ _ (Ne.symm D.a2) (t2.extBut _ _ (Ne.symm n1z) hz1)))
  have k5 : ∀ c o, c ≠ z → c ≠ TO → c ≠ i1 → c ≠ i2 → s.heap.get? c = some o → g5.get? c = some o := fun c o m1 m2 m3 m4 e => t5.extBut _ _ m2 (t4.extBut _ _ m4 (t3.extBut _ _ m2 (t2.extBut _ _ m3 (t1.extBut _ _ m1 e))))
  have o15 : ok1 (k + 1) g5 := S1.ext (S1.ext (S1.ext o12 t3.extBut D.b3) t4.extBut D.c2) t5.extBut D.b3
  have o25 : ok2 (k + 1) g5 := S2.ext o24 t5.extBut D.b4
  have zlt : z < g5.objs.size := Heap.lt_size hz5
  show wpAny _ _ (Builtin.SmallTypes.ownedTupleHandOut (.ref z) (.ref g5.objs.size) >>= _) _ E _; refine wpAny_bind ?_
  unfold Builtin.SmallTypes.ownedTupleHandOut
  have hz6 : IsZip (g5.push { cls := .type "tuple", data := .seq #[x, y] }) z TI TO .ellipsis := Heap.get?_push_of_some _ hz5
  refine wpAny_bind (wpAny_setField_rec hz6 (by simp) fun g7 hz7 t7 => ?_)
  replace hz7 : IsZip g7 z TI TO (rawInt g5.objs.size) := hz7
  refine wpAny_setField_rec hz7 (by simp) fun g8 hz8 t8 => ?_
  replace hz8 : IsZip g8 z TI TO (rawInt g5.objs.size) := hz8
  have up : ∀ c o, c ≠ z → g5.get? c = some o → g8.get? c = some o := fun c o m e => t8.extBut _ _ m (t7.extBut _ _ m (Heap.get?_push_of_some _ e))
  have hT8 : IsPair g8 g5.objs.size x y := t8.extBut _ _ (Nat.ne_of_gt zlt) (t7.extBut _ _ (Nat.ne_of_gt zlt) (Heap.get?_push_size _ rfl))
  rw [sz] at hz8 hT8
  refine wpAny_pure ⟨_, rfl, ?_⟩
  show Q (.ref g5.objs.size) _
  rw [sz]
  exact hQ g8 hz8 (up _ _ D.a2 hO5) (S1.keep _ _ _ o15 fun b hb o e => up b o (fun q => D.b1 (q ▸ hb)) e) (S2.keep _ _ _ o25 fun b hb o e => up b o (fun q => D.b2 (q ▸ hb)) e) hT8 fun c o m1 m2 m3 m4 e => up c o m1 (k5 c o m1 m2 m3 m4 e)
theorem yeV {k : Nat} {p q : Value} {Q : Fin → Shared → Prop} {E : Value → Shared → Prop} (D : ZAp z TI TO d1 d2 i1 i2) (S1 : zcL P w A i1 d1 ok1 v1) (S2 : zcL P w A i2 d2 ok2 v2)
    (hz : IsZip s.heap z TI TO .none) (hI : IsPair s.heap TI (.ref i1) (.ref i2)) (hO : IsPair s.heap TO p q) (o1 : ok1 k s.heap) (o2 : ok2 k s.heap) (he : v1 k = none ∨ v2 k = none)
    (hE : ∀ g e, (∀ c o, c ≠ z → c ≠ TO → c ≠ i1 → c ≠ i2 → s.heap.get? c = some o → g.get? c = some o) → (∃ o, g.get? e = some o ∧ o.cls = .type "StopIteration") → E (.ref e) { s with heap := g }) :
    wpAny (model P w) A (Builtin.«zip.__next__» ⟨[.ref z], []⟩) Q E s := by
  have n1z : i1 ≠ z := fun e => D.b1 (e ▸ S1.mem)
  have n2z : i2 ≠ z := fun e => D.b2 (e ▸ S2.mem)
  have n1O : i1 ≠ TO := fun e => D.b3 (e ▸ S1.mem)
  show wpAny _ _ (field (.ref z) 2 >>= _) _ E s; refine wpAny_bind (wpAny_field hz rfl (x := .bool false) rfl ?_)
  show wpAny _ _ (field (.ref z) 3 >>= _) _ E s; refine wpAny_bind (wpAny_field hz rfl (x := .ref TI) rfl (wpAny_bind (wpAny_seqItems hI rfl ?_)))
  show wpAny _ _ (Builtin.SmallTypes.ownedTupleIsFree (.ref z) >>= _) _ E s; refine wpAny_bind ?_
  unfold Builtin.SmallTypes.ownedTupleIsFree
  refine wpAny_bind (wpAny_field hz rfl (x := .none) rfl (wpAny_pure ?_))
  simp only [if_true]
  refine wpAny_bind (wpAny_rule (wpAny_bind (wpAny_field hz rfl (x := .ref TO) rfl (wpAny_bind (wpAny_setField_rec hz (by simp) fun g1 hz1 t1 => ?_)))))
  replace hz1 : IsZip g1 z TI TO .ellipsis := hz1
  refine wpAny_bind ?_
  simp only [List.zipIdx_cons, List.zipIdx_nil, List.forIn_cons, List.forIn_nil]
  have o11 : ok1 k g1 := S1.ext o1 t1.extBut D.b1
  cases e1 : v1 k with
  | none =>
    refine wpAny_bind (wpAny_bind (wpAny_onRaise ?_)); show wpAny _ _ (Builtin.SmallTypes.nextOf (.ref i1) >>= _) _ _ _; refine (wpAny_bind (S1.stop k _ _ _ o11 e1 fun g2 e t2 ⟨oe, he', ce⟩ => ?_))
    have hz2 : IsZip g2 z TI TO .ellipsis := t2 _ _ (Ne.symm n1z) hz1
    have ez : e ≠ z := fun q => by subst q; rw [hz2] at he'; cases he'; simp at ce
    exact wpAny_setField_rec hz2 (by simp) fun g3 _ t3 => hE g3 e (fun c o m1 _ m3 _ x => t3.extBut _ _ m1 (t2 _ _ m3 (t1.extBut _ _ m1 x))) ⟨oe, t3.extBut _ _ ez he', ce⟩
  | some x =>
    have e2 : v2 k = none := by rcases he with h | h; rw [e1] at h; cases h; exact h
    refine wpAny_bind (wpAny_bind (wpAny_onRaise ?_)); show wpAny _ _ (Builtin.SmallTypes.nextOf (.ref i1) >>= _) _ _ _; refine (wpAny_bind (S1.item k x _ _ _ o11 e1 fun g2 o12 t2 => wpAny_pure ?_))
    have hO2 : IsPair g2 TO p q := t2.extBut _ _ (Ne.symm n1O) (t1.extBut _ _ D.a2 hO)
    refine wpAny_bind (wpAny_seqItems hO2 rfl (wpAny_bind (wpAny_updateSeq_pair hO2 fun g3 hO3 t3 => ?_)))
    refine wpAny_bind (wpAny_letGo (wpAny_pure ?_))
    have o23 : ok2 k g3 := S2.ext (S2.ext (S2.ext o2 t1.extBut D.b2) t2.extBut D.c1) t3.extBut D.b4
    refine wpAny_bind (wpAny_bind (wpAny_onRaise ?_)); show wpAny _ _ (Builtin.SmallTypes.nextOf (.ref i2) >>= _) _ _ _; refine (wpAny_bind (S2.stop k _ _ _ o23 e2 fun g4 e t4 ⟨oe, he', ce⟩ => ?_))
    have hz4 : IsZip g4 z TI TO .ellipsis := t4 _ _ (Ne.symm n2z) (t3.extBut _ _ (Ne.symm D.a2) (t2.extBut _ _ (Ne.symm n1z) hz1))
    have ez : e ≠ z := fun q => by subst q; rw [hz4] at he'; cases he'; simp at ce
    exact wpAny_setField_rec hz4 (by simp) fun g5 _ t5 => hE g5 e (fun c o m1 m2 m3 m4 x => t5.extBut _ _ m1 (t4 _ _ m4 (t3.extBut _ _ m2 (t2.extBut _ _ m3 (t1.extBut _ _ m1 x))))) ⟨oe, t5.extBut _ _ ez he', ce⟩
end
end L2
end
section
-- text: ExtC
set_option Elab.async false
set_option linter.all false
set_option maxRecDepth 100000
set_option maxHeartbeats 4000000
namespace L2
open PySem PySem.Spec PyProof.Rows
noncomputable def SqB (K : PySem.W.Frag) : Bool → Hp → Addr → List V → Prop
  | true => fun H a xs => SqT K H a xs
  | false => fun H a xs => SqL K H a xs
noncomputable def zbc : Bool → Heap → Addr → Array Value → Prop
  | true => fun h a xs => h.IsTuple a xs
  | false => fun h a xs => h.IsList a xs
noncomputable def zcI : Bool → Heap → Addr → Addr → Nat → Prop
  | true => fun h a l k => h.IsTupleIter a l k
  | false => fun h a l k => h.IsListIter a l k
noncomputable def yap (b : Bool) (l : Addr) : Obj := { cls := .type (if b then "tuple_iterator" else "list_iterator"), data := .fields #[.ref l, .int 0 0] }
theorem zcf (b : Bool) (h : Heap) (l : Addr) (a : Addr) (e : h.get? a = some (yap b l)) : zcI b h a l 0 := by cases b <;> exact ⟨_, e, rfl, rfl⟩
theorem zbD {b : Bool} {h h' : Heap} {a l : Addr} {k : Nat} (x : zcI b h a l k) (e : ∀ o, h.get? a = some o → h'.get? a = some o) : zcI b h' a l k := by
  cases b
  · exact Heap.IsListIter.at x e
  · exact zcB x e
theorem zeQ {b : Bool} {h h' : Heap} {a : Addr} {xs : Array Value} (x : zbc b h a xs) (e : ∀ o, h.get? a = some o → h'.get? a = some o) : zbc b h' a xs := by
  cases b
  · exact Heap.IsList.at x e
  · exact yfd x e
theorem subB {P : Program} {w : World} {A : Around} (b : Bool) {a l : Addr} {xs : Array Value} (hh : A.handled = none) (ne : l ≠ a) : zcL P w A a [a, l] (fun k h => zcI b h a l k ∧ zbc b h l xs) (fun k => xs[k]?) := by
  cases b
  · exact zfy hh ne
  · exact yfW hh ne
theorem yaR {b : Bool} {h : Heap} {a l : Addr} {k : Nat} (x : zcI b h a l k) : ∃ o, h.get? a = some o ∧ (∀ v, o.data ≠ .cell v) ∧ (o.cls = .type "tuple_iterator" ∨ o.cls = .type "list_iterator") := by
  cases b <;> obtain ⟨o, e, c, d⟩ := x
  · exact ⟨o, e, fun v q => (by rw [d] at q; cases q), .inr c⟩
  · exact ⟨o, e, fun v q => (by rw [d] at q; cases q), .inl c⟩
theorem ycu {b : Bool} {h : Heap} {a : Addr} {xs : Array Value} (x : zbc b h a xs) : ∃ o, h.get? a = some o ∧ (o.cls = .type "tuple" ∨ o.cls = .type "list") := by
  cases b <;> obtain ⟨o, e, c, d⟩ := x
  · exact ⟨o, e, .inr c⟩
  · exact ⟨o, e, .inl c⟩
theorem yb3 {P : Program} {w : World} {A : Around} {E : Value → Shared → Prop} {s : Shared} {b : Bool} {t : Addr} {items : Array Value} {Q : Value → Shared → Prop} (ht : zbc b s.heap t items)
    (hQ : Q (.ref s.heap.objs.size) { s with heap := s.heap.push (yap b t) }) : wpAny (model P w) A (pyIter (.ref t)) Q E s := by
  cases b
  · exact wpAny_pyIter_list ht hQ
  · exact wpAny_pyIter_tuple ht hQ
section
variable {X : Cx} {pins : List (Addr × Obj)} {σ : St} {H : Hp} {s : Shared}
theorem Inv.seqB {b : Bool} {a : Addr} {xs : List V} (I : Inv X pins σ H s) (h : SqB X.K b H a xs) : ∃ its : List Value, Vals xs its ∧ zbc b s.heap a its.toArray ∧ xs.length ≤ sizeLine := by
  cases b
  · obtain ⟨its, r, p, z⟩ := I.list h; exact ⟨its, r, p.isList, z⟩
  · obtain ⟨its, r, p, z⟩ := I.tuple h; exact ⟨its, r, p, z⟩
theorem Inv.seqB_inj {b : Bool} {a : Addr} {xs ys : List V} (I : Inv X pins σ H s) (h : SqB X.K b H a xs) (h' : SqB X.K b H a ys) : xs = ys := by
  cases b
  · exact I.list_inj h h'
  · exact I.tuple_inj h h'
theorem Inv.turnedT {fp : List Addr} {h' : Heap} {t' : Nat} {T : Addr} {xs : List V} {its : Array Value} (I : Inv X pins σ H s) (hf : ∀ b ∈ fp, FpOk X pins H b) (k : ∀ b o, b ∉ fp → s.heap.get? b = some o → h'.get? b = some o)
    (hp : s.heap.objs.size ≤ T) (z : xs.length ≤ sizeLine) (r : Vals xs its.toList) (new : h'.IsTuple T its) : Inv X pins σ (upd H T (.tup xs)) { s with heap := h', toks := t' } := by
  have fT : H T = none := I.hok.fresh hp
  have nT : ∀ b o, s.heap.get? b = some o → b ≠ T := fun b o e q => by
    have l1 : s.heap.objs.size ≥ Nat.succ b := Heap.lt_size e
    have l2 : @Eq Nat b T := q
    omega
  have nfp : ∀ b u, H b = some u → b ∉ fp := fun b u e q => by rw [(hf b q).1] at e; cases e
  refine I.step (g' := s.gens) (d' := s.drawn) (ch := fp) (fun b hb => ⟨(hf b hb).2.2.2.1, (hf b hb).2.1, (hf b hb).2.2.2.2.1, (hf b hb).2.2.2.2.2⟩) (fun b o _ _ hc e _ => k b o hc e) (fun b o _ _ hc e _ => ⟨o.slots, k b o hc e⟩)
    (fun b o _ e n => by rw [zag (nT b o e)]; exact n) (fun b o hc e => ⟨o, k b o hc e⟩) (fun b ys e => by rw [zag (zaf e fT)]; exact e) (fun b o u e => by rw [zag (zaf e fT)]; exact e)
    (fun b ps e => ⟨#[], by rw [zag (zaf e fT), e]; simp⟩) (fun m hm => ?_) (fun b u e => ?_) I.bare
  · obtain ⟨o, es, ep, ho, q⟩ := hm
    exact ⟨o, es, ep, k _ o (fun hb => (hf _ hb).2.1 rfl) ho, q⟩
  · by_cases hb : b = T
    · subst hb
      rw [zac] at e; cases e
      have q : IsTup h' b its := new
      exact ⟨z, its.toList, r, by simpa using q⟩
    · rw [zag hb] at e
      refine (I.hok b u e).stay (fun c v hc q => k c v ?_ q) (fun c q => ?_) fun c ys q => ?_
      · rcases hc with hc | hc
        · rw [hc]; exact nfp b u e
        · exact nfp c _ hc
      · rw [zag (zaf q fT)]; exact q
      · rw [zag (zaf q fT)]; exact q
theorem Inv.turnedL {fp : List Addr} {h' : Heap} {t' : Nat} (I : Inv X pins σ H s) (hf : ∀ b ∈ fp, FpOk X pins H b) (k : ∀ b o, b ∉ fp → s.heap.get? b = some o → h'.get? b = some o) : Inv X pins σ H { s with heap := h', toks := t' } := by
  have nfp : ∀ b u, H b = some u → b ∉ fp := fun b u e q => by rw [(hf b q).1] at e; cases e
  refine I.step (g' := s.gens) (d' := s.drawn) (ch := fp) (fun b hb => ⟨(hf b hb).2.2.2.1, (hf b hb).2.1, (hf b hb).2.2.2.2.1, (hf b hb).2.2.2.2.2⟩) (fun b o _ _ hc e _ => k b o hc e) (fun b o _ _ hc e _ => ⟨o.slots, k b o hc e⟩)
    (fun b o _ e n => n) (fun b o hc e => ⟨o, k b o hc e⟩) (fun b ys e => e) (fun b o u e => e) (fun b ps e => ⟨#[], by rw [e]; simp⟩) (fun m hm => ?_) (fun b u e => ?_) I.bare
  · obtain ⟨o, es, ep, ho, q⟩ := hm
    exact ⟨o, es, ep, k _ o (fun hb => (hf _ hb).2.1 rfl) ho, q⟩
  · refine (I.hok b u e).stay (fun c v hc q => k c v ?_ q) (fun c q => q) fun c ys q => q
    rcases hc with hc | hc
    · rw [hc]; exact nfp b u e
    · exact nfp c _ hc
end
noncomputable def Itz (K : PySem.W.Frag) (b1 b2 : Bool) (l1 l2 : Addr) : It :=
  ⟨fun i H => ∃ xs ys x y, SqB K b1 H l1 xs ∧ SqB K b2 H l2 ys ∧ xs[i]? = some x ∧ ys[i]? = some y,
   fun i H v H' => ∃ T x y, v = .ref T ∧ H T = none ∧ H' = upd H T (.tup [x, y]) ∧ (∀ xs, SqB K b1 H l1 xs → xs[i]? = some x) ∧ (∀ ys, SqB K b2 H l2 ys → ys[i]? = some y),
   fun i H => ∃ xs ys, SqB K b1 H l1 xs ∧ SqB K b2 H l2 ys ∧ (xs.length ≤ i ∨ ys.length ≤ i)⟩
structure ZSt (b1 b2 : Bool) (z TI TO i1 i2 l1 l2 : Addr) (k : Nat) (h : Heap) : Prop where
  zip : IsZip h z TI TO .none
  ti : IsPair h TI (.ref i1) (.ref i2)
  to : ∃ a b, IsPair h TO a b
  it1 : zcI b1 h i1 l1 k
  it2 : zcI b2 h i2 l2 k
theorem yaQ {h : Heap} {a b : Addr} {o u : Obj} {x y : String} (e : h.get? a = some o) (e' : h.get? b = some u) (ca : o.cls = .type x) (cb : u.cls = .type y) (n : x ≠ y := by decide) : a ≠ b := fun q => by
  subst q; rw [e] at e'; cases e'; rw [ca] at cb; injection cb with cb; exact n cb
theorem Inv.sq_ne {X : Cx} {pins : List (Addr × Obj)} {σ : St} {H : Hp} {s : Shared} {b : Bool} {l c : Addr} {xs : List V} (I : Inv X pins σ H s) (h : SqB X.K b H l xs) (f : FpOk X pins H c) : l ≠ c := by
  have key : (∃ u, H l = some u) ∨ ∃ o, X.K.lookup l = some o := by
    cases b
    · rcases h with (h | ⟨o, h⟩) | ⟨o, _, _, h, _⟩
      · exact .inl ⟨_, h⟩
      · exact .inl ⟨_, h⟩
      · exact .inr ⟨o, h⟩
    · rcases h with (h | ⟨o, h⟩) | ⟨o, _, _, h, _⟩
      · exact .inl ⟨_, h⟩
      · exact .inl ⟨_, h⟩
      · exact .inr ⟨o, h⟩
  intro q
  subst q
  rcases key with ⟨u, e⟩ | ⟨o, e⟩
  · rw [f.1] at e; cases e
  · have eb := I.ok.mod.kin l o e
    rcases f.2.2.2.1 with z | z
    · exact I.ok.noex l o eb z
    · have l1 : X.base.objs.size ≥ Nat.succ l := Heap.lt_size eb
      have l2 : X.base.objs.size ≤ X.s₀.heap.objs.size := I.ok.bsz
      have l3 : X.s₀.heap.objs.size ≤ l := z
      omega
theorem yeZ {P : Program} {w : World} {K : PySem.W.Frag} {elts : List Expr} {kk : Nat} {tpos : Pos} (b1 b2 : Bool) (z TI TO i1 i2 l1 l2 : Addr) (nIO : TI ≠ TO) (n12 : i1 ≠ i2) :
    Turn P w K (.Tuple elts kk tpos) (Itz K b1 b2 l1 l2) [z, TI, TO, i1, i2] z (ZSt b1 b2 z TI TO i1 i2 l1 l2) where
  mem := List.mem_cons_self
  obj := fun k h S b hb => by
    obtain ⟨p, q, hO⟩ := S.to
    obtain ⟨o1, e1, d1, _⟩ := yaR S.it1
    obtain ⟨o2, e2, d2, _⟩ := yaR S.it2
    simp only [List.mem_cons, List.not_mem_nil, or_false] at hb
    rcases hb with rfl | rfl | rfl | rfl | rfl
    · exact ⟨_, S.zip, fun v q => by cases q⟩
    · exact ⟨_, S.ti, fun v q => by cases q⟩
    · exact ⟨_, hO, fun v q => by cases q⟩
    · exact ⟨o1, e1, d1⟩
    · exact ⟨o2, e2, d2⟩
  keep := fun k h h' S q => by
    obtain ⟨p, r, hO⟩ := S.to
    exact ⟨q z (by simp) _ S.zip, q TI (by simp) _ S.ti, ⟨p, r, q TO (by simp) _ hO⟩, zbD S.it1 fun o e => q i1 (by simp) o e, zbD S.it2 fun o e => q i2 (by simp) o e⟩
  item := by
    intro X hP hw hK hc i pins s σ H E I hf S hg
    subst hP hw hK
    obtain ⟨xs, ys, x, y, h1, h2, ex, ey⟩ := hg
    obtain ⟨us, r1, p1, z1⟩ := I.seqB h1
    obtain ⟨vs, r2, p2, z2⟩ := I.seqB h2
    obtain ⟨u, eu, ru⟩ := r1.get ex
    obtain ⟨v, ev, rv⟩ := r2.get ey
    obtain ⟨p, q, hO⟩ := S.to
    obtain ⟨o1, e1, _, c1⟩ := yaR S.it1
    obtain ⟨o2, e2, _, c2⟩ := yaR S.it2
    obtain ⟨q1, f1, g1⟩ := ycu p1
    obtain ⟨q2, f2, g2⟩ := ycu p2
    have fz : ∀ b ∈ [z, TI, TO, i1, i2], H b = none := fun b hb => (hf b hb).1
    have hh : X.A.handled = none := I.ok.hd hc
    have nl1 : ∀ b ∈ [z, TI, TO, i1, i2], l1 ≠ b := fun b hb => I.sq_ne h1 (hf b hb)
    have nl2 : ∀ b ∈ [z, TI, TO, i1, i2], l2 ≠ b := fun b hb => I.sq_ne h2 (hf b hb)
    have i1z : i1 ≠ z := by rcases c1 with c | c <;> exact yaQ e1 S.zip c rfl
    have i2z : i2 ≠ z := by rcases c2 with c | c <;> exact yaQ e2 S.zip c rfl
    have i1I : i1 ≠ TI := by rcases c1 with c | c <;> exact yaQ e1 S.ti c rfl
    have i2I : i2 ≠ TI := by rcases c2 with c | c <;> exact yaQ e2 S.ti c rfl
    have i1O : i1 ≠ TO := by rcases c1 with c | c <;> exact yaQ e1 hO c rfl
    have i2O : i2 ≠ TO := by rcases c2 with c | c <;> exact yaQ e2 hO c rfl
    have Iz : TI ≠ z := yaQ S.ti S.zip rfl rfl
    have Oz : TO ≠ z := yaQ hO S.zip rfl rfl
    have D : ZAp z TI TO [i1, l1] [i2, l2] i1 i2 := by
      refine ⟨Iz, Oz, nIO, ?_, ?_, ?_, ?_, Ne.symm i1I, Ne.symm i2I, ?_, ?_⟩
      · simp only [List.mem_cons, List.not_mem_nil, or_false, not_or]; exact ⟨Ne.symm i1z, Ne.symm (nl1 z (by simp))⟩
      · simp only [List.mem_cons, List.not_mem_nil, or_false, not_or]; exact ⟨Ne.symm i2z, Ne.symm (nl2 z (by simp))⟩
      · simp only [List.mem_cons, List.not_mem_nil, or_false, not_or]; exact ⟨Ne.symm i1O, Ne.symm (nl1 TO (by simp))⟩
      · simp only [List.mem_cons, List.not_mem_nil, or_false, not_or]; exact ⟨Ne.symm i2O, Ne.symm (nl2 TO (by simp))⟩
      · simp only [List.mem_cons, List.not_mem_nil, or_false, not_or]; exact ⟨n12, Ne.symm (nl2 i1 (by simp))⟩
      · simp only [List.mem_cons, List.not_mem_nil, or_false, not_or]; exact ⟨Ne.symm n12, Ne.symm (nl1 i2 (by simp))⟩
    have hT : s.TypeIs (.ref z) "zip" := ⟨_, S.zip, rfl⟩
    unfold pyNext
    refine wpAny_bind (wpAny_attempt (wpAny_callSpecial?_slot (name := Str.ofString "__next__") hT F.slot_zip_next (wpAny_call_entry F.slot_zip_next hT F.entry_zip_next
      (zeq D (subB b1 (A := X.A.in1) hh (nl1 i1 (by simp))) (subB b2 (A := X.A.in1) hh (nl2 i2 (by simp))) S.zip S.ti hO ⟨S.it1, p1⟩ ⟨S.it2, p2⟩ (x := u) (y := v) (by simpa using eu) (by simpa using ev)
        fun g a1 a2 a3 a4 a5 a6 => wpAny_pure ?_) (F.args_zip_next_1 _))))
    refine ⟨_, rfl, wpAny_letOwnedTupleGo_zip (s := { s with heap := g }) a1 fun g' hz' t => ?_⟩
    have lt : ∀ {c : Addr} {o : Obj}, s.heap.get? c = some o → s.heap.objs.size ≠ c := fun e => Nat.ne_of_gt (Heap.lt_size e)
    have k' : ∀ b o, b ∉ [z, TI, TO, i1, i2] → s.heap.get? b = some o → g'.get? b = some o := fun b o hb e => by
      simp only [List.mem_cons, List.not_mem_nil, or_false, not_or] at hb
      exact t.extBut b o hb.1 (a6 b o hb.1 hb.2.2.1 hb.2.2.2.1 hb.2.2.2.2 e)
    have hTI' : IsPair g' TI (.ref i1) (.ref i2) := t.extBut _ _ Iz (a6 _ _ Iz nIO (Ne.symm i1I) (Ne.symm i2I) S.ti)
    have hS' : ZSt b1 b2 z TI TO i1 i2 l1 l2 (i + 1) g' := ⟨hz', hTI', ⟨_, _, t.extBut _ _ Oz a2⟩, zbD a3.1 fun o e => t.extBut _ _ i1z e, zbD a4.1 fun o e => t.extBut _ _ i2z e⟩
    have fT : H s.heap.objs.size = none := I.hok.fresh (Nat.le_refl _)
    have J : Inv X pins σ (upd H s.heap.objs.size (.tup [x, y])) { s with heap := g' } := I.turnedT (t' := s.toks) (fp := [z, TI, TO, i1, i2]) hf k' (Nat.le_refl _) (by show 2 ≤ sizeLine; decide) (its := #[u, v]) (.cons ru (.cons rv .nil)) ⟨_, t.extBut _ _ (lt S.zip) a5, rfl, _, rfl⟩
    refine ⟨.ref s.heap.objs.size, upd H s.heap.objs.size (.tup [x, y]), J, rfl,
      ⟨_, x, y, rfl, fT, rfl, fun xs' hx' => by rw [I.seqB_inj hx' h1]; exact ex, fun ys' hy' => by rw [I.seqB_inj hy' h2]; exact ey⟩, hS', fun b hb => ?_⟩
    have fobj : ∃ o, s.heap.get? b = some o := by
      simp only [List.mem_cons, List.not_mem_nil, or_false] at hb
      rcases hb with rfl | rfl | rfl | rfl | rfl
      · exact ⟨_, S.zip⟩
      · exact ⟨_, S.ti⟩
      · exact ⟨_, hO⟩
      · exact ⟨_, e1⟩
      · exact ⟨_, e2⟩
    obtain ⟨o, eo⟩ := fobj
    rw [zag (Ne.symm (lt eo))]
    exact fz b hb
  done := by
    intro X hP hw hK hc i pins s σ H E I hf S hg
    subst hP hw hK
    obtain ⟨xs, ys, h1, h2, le⟩ := hg
    obtain ⟨us, r1, p1, z1⟩ := I.seqB h1
    obtain ⟨vs, r2, p2, z2⟩ := I.seqB h2
    obtain ⟨p, q, hO⟩ := S.to
    obtain ⟨o1, e1, _, c1⟩ := yaR S.it1
    obtain ⟨o2, e2, _, c2⟩ := yaR S.it2
    have hh : X.A.handled = none := I.ok.hd hc
    have nl1 : ∀ b ∈ [z, TI, TO, i1, i2], l1 ≠ b := fun b hb => I.sq_ne h1 (hf b hb)
    have nl2 : ∀ b ∈ [z, TI, TO, i1, i2], l2 ≠ b := fun b hb => I.sq_ne h2 (hf b hb)
    have i1z : i1 ≠ z := by rcases c1 with c | c <;> exact yaQ e1 S.zip c rfl
    have i2z : i2 ≠ z := by rcases c2 with c | c <;> exact yaQ e2 S.zip c rfl
    have i1I : i1 ≠ TI := by rcases c1 with c | c <;> exact yaQ e1 S.ti c rfl
    have i2I : i2 ≠ TI := by rcases c2 with c | c <;> exact yaQ e2 S.ti c rfl
    have i1O : i1 ≠ TO := by rcases c1 with c | c <;> exact yaQ e1 hO c rfl
    have i2O : i2 ≠ TO := by rcases c2 with c | c <;> exact yaQ e2 hO c rfl
    have Iz : TI ≠ z := yaQ S.ti S.zip rfl rfl
    have Oz : TO ≠ z := yaQ hO S.zip rfl rfl
    have D : ZAp z TI TO [i1, l1] [i2, l2] i1 i2 := by
      refine ⟨Iz, Oz, nIO, ?_, ?_, ?_, ?_, Ne.symm i1I, Ne.symm i2I, ?_, ?_⟩
      · simp only [List.mem_cons, List.not_mem_nil, or_false, not_or]; exact ⟨Ne.symm i1z, Ne.symm (nl1 z (by simp))⟩
      · simp only [List.mem_cons, List.not_mem_nil, or_false, not_or]; exact ⟨Ne.symm i2z, Ne.symm (nl2 z (by simp))⟩
      · simp only [List.mem_cons, List.not_mem_nil, or_false, not_or]; exact ⟨Ne.symm i1O, Ne.symm (nl1 TO (by simp))⟩
      · simp only [List.mem_cons, List.not_mem_nil, or_false, not_or]; exact ⟨Ne.symm i2O, Ne.symm (nl2 TO (by simp))⟩
      · simp only [List.mem_cons, List.not_mem_nil, or_false, not_or]; exact ⟨n12, Ne.symm (nl2 i1 (by simp))⟩
      · simp only [List.mem_cons, List.not_mem_nil, or_false, not_or]; exact ⟨Ne.symm n12, Ne.symm (nl1 i2 (by simp))⟩
    have he : us.toArray[i]? = none ∨ vs.toArray[i]? = none := by
      have l1 := r1.length
      have l2 := r2.length
      rcases le with l | l
      · exact .inl (by simp; omega)
      · exact .inr (by simp; omega)
    have hT : s.TypeIs (.ref z) "zip" := ⟨_, S.zip, rfl⟩
    unfold pyNext
    refine wpAny_bind (wpAny_attempt (wpAny_callSpecial?_slot (name := Str.ofString "__next__") hT F.slot_zip_next (wpAny_call_entry F.slot_zip_next hT F.entry_zip_next
      (yeV D (subB b1 (A := X.A.in1) hh (nl1 i1 (by simp))) (subB b2 (A := X.A.in1) hh (nl2 i2 (by simp))) S.zip S.ti hO ⟨S.it1, p1⟩ ⟨S.it2, p2⟩ he fun g e kg ⟨oe, ho, hce⟩ => ?_) (F.args_zip_next_1 _))))
    refine wpAny_bind (wpAny_isInstance (T := "StopIteration") (b := true) ⟨oe, ho, hce⟩ isSubtype_stop (wpAny_pure ⟨rfl, ?_⟩))
    refine I.turnedL (t' := s.toks) (fp := [z, TI, TO, i1, i2]) hf fun b o hb e => ?_
    simp only [List.mem_cons, List.not_mem_nil, or_false, not_or] at hb
    exact kg b o hb.1 hb.2.2.1 hb.2.2.2.1 hb.2.2.2.2 e
  self := fun A i s Q E S h => wpAny_pyIter_zip S.zip h
noncomputable def yeo (h : Heap) (o1 o2 : Obj) : Heap := (((h.push o1).push o2).push { cls := .type "tuple", data := .seq #[.ref h.objs.size, .ref (h.push o1).objs.size] }).push { cls := .type "tuple", data := .seq #[.none, .none] }
noncomputable def ycn (h : Heap) (o1 o2 : Obj) : Heap := (yeo h o1 o2).push { cls := .type "zip", data := .fields #[.none, .bool false, .bool false, .ref ((h.push o1).push o2).objs.size, .ref (((h.push o1).push o2).push { cls := .type "tuple", data := .seq #[.ref h.objs.size, .ref (h.push o1).objs.size] }).objs.size] }
theorem zdX (b1 b2 : Bool) (l1 l2 : Addr) (xs ys : Array Value) :
    Meets (Builtin.«zip.__new__» ⟨[.type "zip", .ref l1, .ref l2], []⟩) (fun _ R s => zbc b1 s.heap l1 xs ∧ zbc b2 s.heap l2 ys ∧ R (.ok (.ret (.ref (yeo s.heap (yap b1 l1) (yap b2 l2)).objs.size))) { s with heap := ycn s.heap (yap b1 l1) (yap b2 l2) }) :=
  .of_wp fun prog w A R s h => by
    obtain ⟨hp, g, d, tk, os⟩ := s; obtain ⟨hl1, hl2, h⟩ := h
    have hsub := sub_zip
    have hL1 : zbc b1 (Shared.heap ⟨hp, g, d, tk, os⟩) l1 xs := hl1
    have hL2 : zbc b2 (Shared.heap ⟨hp.push (yap b1 l1), g, d, tk, os⟩) l2 ys := zeQ hl2 fun o e => Heap.get?_push_of_some _ e
    wp_walk using yb3 hL1, yb3 hL2
    exact ⟨_, rfl, h⟩
end L2
end
section
-- text: ExtD
set_option Elab.async false
set_option linter.all false
set_option maxRecDepth 100000
set_option maxHeartbeats 4000000
namespace L2
open PySem PySem.Spec PyProof.Rows
section
variable {X : Cx}
noncomputable def iZip (K : PySem.W.Frag) (ta : TA) : TI := fun σ H R => ta σ H fun vs H1 => ∃ b1 b2 a1 a2, vs = [.ref a1, .ref a2] ∧ (∃ xs, SqB K b1 H1 a1 xs) ∧ (∃ ys, SqB K b2 H1 a2 ys) ∧ R (Itz K b1 b2 a1 a2) H1
theorem yfM {pins : List (Addr × Obj)} {σ : St} {H : Hp} {s : Shared} {R : It → Hp → Prop} {elts : List Expr} {kk : Nat} {tpos : Pos} {b1 b2 : Bool} {l1 l2 : Addr} {xs ys : List V} (I : Inv X pins σ H s) (h1 : SqB X.K b1 H l1 xs) (h2 : SqB X.K b2 H l2 ys) (q : R (Itz X.K b1 b2 l1 l2) H) :
    wpAny (model X.prog X.w) X.A (call (.type "zip") [.ref l1, .ref l2]) (fun v s1 => wpAny (model X.prog X.w) X.A (pyIter v) (PIE X pins σ (.Tuple elts kk tpos) R) X.xe s1) X.xe s := by
  obtain ⟨us, r1, p1, z1⟩ := I.seqB h1
  obtain ⟨vs, r2, p2, z2⟩ := I.seqB h2
  refine callType_new F.called_zip (by decide) (F.typeCall_zip_2 _ _) (F.newCall_zip_2 _ _) (fun obj => F.args_object_init_3 obj _ _) F.entry_zip_new (zdX b1 b2 l1 l2 us.toArray vs.toArray) ⟨p1, p2, ?_⟩
  generalize hn : s.heap.objs.size = n
  have s1 : (s.heap.push (yap b1 l1)).objs.size = n + 1 := by rw [Heap.size_push, hn]
  have s2 : ((s.heap.push (yap b1 l1)).push (yap b2 l2)).objs.size = n + 2 := by rw [Heap.size_push, s1]
  have s3 : (((s.heap.push (yap b1 l1)).push (yap b2 l2)).push { cls := .type "tuple", data := .seq #[.ref s.heap.objs.size, .ref (s.heap.push (yap b1 l1)).objs.size] }).objs.size = n + 3 := by rw [Heap.size_push, s2]
  have s4 : (yeo s.heap (yap b1 l1) (yap b2 l2)).objs.size = n + 4 := by unfold yeo; rw [Heap.size_push, s3]
  have old : ∀ b o, s.heap.get? b = some o → (ycn s.heap (yap b1 l1) (yap b2 l2)).get? b = some o := fun b o e => Heap.get?_push_of_some _ (Heap.get?_push_of_some _ (Heap.get?_push_of_some _ (Heap.get?_push_of_some _ (Heap.get?_push_of_some _ e))))
  have gz : (ycn s.heap (yap b1 l1) (yap b2 l2)).get? (n + 4) = some { cls := .type "zip", data := .fields #[.none, .bool false, .bool false, .ref (n + 2), .ref (n + 3)] } := by
    have e : (ycn s.heap (yap b1 l1) (yap b2 l2)).get? (yeo s.heap (yap b1 l1) (yap b2 l2)).objs.size = some _ := Heap.get?_push_size _ rfl
    rw [s4] at e
    rw [e, s2, s3]
  have gO : (ycn s.heap (yap b1 l1) (yap b2 l2)).get? (n + 3) = some { cls := .type "tuple", data := .seq #[.none, .none] } := by
    have e := Heap.get?_push_size (h := ((s.heap.push (yap b1 l1)).push (yap b2 l2)).push { cls := .type "tuple", data := .seq #[.ref s.heap.objs.size, .ref (s.heap.push (yap b1 l1)).objs.size] }) (o := { cls := .type "tuple", data := .seq #[.none, .none] }) rfl
    rw [s3] at e
    exact Heap.get?_push_of_some _ e
  have gI : (ycn s.heap (yap b1 l1) (yap b2 l2)).get? (n + 2) = some { cls := .type "tuple", data := .seq #[.ref n, .ref (n + 1)] } := by
    have e : (ycn s.heap (yap b1 l1) (yap b2 l2)).get? ((s.heap.push (yap b1 l1)).push (yap b2 l2)).objs.size = some { cls := .type "tuple", data := .seq #[.ref s.heap.objs.size, .ref (s.heap.push (yap b1 l1)).objs.size] } := Heap.get?_push_of_some _ (Heap.get?_push_of_some _ (Heap.get?_push_size _ rfl))
    rw [s2] at e
    rw [e, s1, hn]
  have g2 : (ycn s.heap (yap b1 l1) (yap b2 l2)).get? (n + 1) = some (yap b2 l2) := by
    have e := Heap.get?_push_size (h := s.heap.push (yap b1 l1)) (o := yap b2 l2) rfl
    rw [s1] at e
    exact Heap.get?_push_of_some _ (Heap.get?_push_of_some _ (Heap.get?_push_of_some _ e))
  have g1 : (ycn s.heap (yap b1 l1) (yap b2 l2)).get? n = some (yap b1 l1) := by
    have e := Heap.get?_push_size (h := s.heap) (o := yap b1 l1) rfl
    rw [hn] at e
    exact Heap.get?_push_of_some _ (Heap.get?_push_of_some _ (Heap.get?_push_of_some _ (Heap.get?_push_of_some _ e)))
  rw [s4]
  refine ⟨⟨_, gz, rfl⟩, wpAny_pyIter_zip gz ?_⟩
  have I1 : Inv X pins σ H { s with heap := ycn s.heap (yap b1 l1) (yap b2 l2) } := I.kept (t' := s.toks) old
  refine ⟨n + 4, [n + 4, n + 2, n + 3, n, n + 1], _, _, H, rfl, I1, yeZ b1 b2 (n + 4) (n + 2) (n + 3) n (n + 1) l1 l2 (show @Ne Nat _ _ by omega) (show @Ne Nat _ _ by omega), ⟨gz, gI, ⟨_, _, gO⟩, zcf _ _ _ _ g1, zcf _ _ _ _ g2⟩, fun b hb => ?_, q⟩
  have le : s.heap.objs.size ≤ b := by
    rw [hn]
    simp only [List.mem_cons, List.not_mem_nil, or_false] at hb
    show @LE.le Nat _ n b
    rcases hb with e | e | e | e | e <;> (have e' : @Eq Nat b _ := e; omega)
  exact I.fpOk le (I.hok.fresh le)
theorem zfU {a b : Expr} {ta : TA} {p pos : Pos} {elts : List Expr} {kk : Nat} {tpos : Pos} (hg : Gl X "zip") (hm : X.mg "zip" = none) (ha : PA X [a, b] ta) (hs : starEach [a, b] X.env = [(false, eval a X.env), (false, eval b X.env)] := by rfl) (hs2 : starEach [b] X.env = [(false, eval b X.env)] := by rfl) :
    PI X (.Tuple elts kk tpos) (.Call (.Name "zip" p) [a, b] [] pos) (iZip X.K ta) := by
  intro pins s σ H R I h
  refine Call_ (ybq I hg hm (u := .type "zip") boot_zip (PyProof.Rows.callWith_type1 (thn (ha pos pins s σ H _ I h) fun us s1 ⟨vs, H1, I1, r1, q1⟩ => ?_) (by rw [hs, hs2]) (by rw [hs2]; rfl)))
  obtain ⟨b1, b2, a1, a2, e, ⟨xs, h1⟩, ⟨ys, h2⟩, q⟩ := q1
  subst e
  cases r1 with
  | cons r rr =>
    cases rr with
    | cons r' rr =>
      cases rr
      cases r
      cases r'
      exact yfM I1 h1 h2 q
end
end L2
end
section
-- text: ExtE
set_option Elab.async false
set_option linter.all false
set_option maxRecDepth 100000
set_option maxHeartbeats 4000000
namespace L2
open PySem PySem.Spec PyProof.Rows
noncomputable def Ite (K : PySem.W.Frag) (b : Bool) (l : Addr) : It :=
  ⟨fun i H => ∃ xs x, SqB K b H l xs ∧ xs[i]? = some x,
   fun i H v H' => ∃ T x, v = .ref T ∧ H T = none ∧ H' = upd H T (.tup [.int i, x]) ∧ (∀ xs, SqB K b H l xs → xs[i]? = some x),
   fun i H => ∃ xs, SqB K b H l xs ∧ xs.length ≤ i⟩
theorem zfX {P : Program} {w : World} {A : Around} (b : Bool) {a l : Addr} {xs : Array Value} (hh : A.handled = none) (ne : l ≠ a) : Draws P w A a [a, l] xs.size (fun i v => xs[i]? = some v) (fun k h => zcI b h a l k ∧ zbc b h l xs) where
  live := fun k h z => let ⟨o, e, _⟩ := (subB (P := P) (w := w) b hh ne).obj k h z; ⟨o, e⟩
  frame := fun k h h' z q => (subB (P := P) (w := w) b hh ne).keep k h h' z q
  item := fun k s Q E hk z q => by
    have hx : xs[k]? = some xs[k] := Array.getElem?_eq_getElem hk
    exact (subB (P := P) (w := w) b hh ne).item k xs[k] s Q E z hx fun h' a1 a2 => q xs[k] h' s.toks hx a1 a2
  done := fun s Q E z q => (subB (P := P) (w := w) b hh ne).stop xs.size s Q E z (Array.getElem?_eq_none (Nat.le_refl _)) q
structure ESt (b : Bool) (e it l : Addr) (k : Nat) (h : Heap) : Prop where
  en : ∃ old, IsEnum h e it k old
  it : zcI b h it l k
theorem zeo {P : Program} {w : World} {K : PySem.W.Frag} {elts : List Expr} {kk : Nat} {tpos : Pos} (b : Bool) (e it l : Addr) :
    Turn P w K (.Tuple elts kk tpos) (Ite K b l) [e, it] e (ESt b e it l) where
  mem := List.mem_cons_self
  obj := fun k h S c hc => by
    obtain ⟨old, he⟩ := S.en
    obtain ⟨o1, e1, d1, _⟩ := yaR S.it
    simp only [List.mem_cons, List.not_mem_nil, or_false] at hc
    rcases hc with rfl | rfl
    · exact ⟨_, he, fun v q => by cases q⟩
    · exact ⟨o1, e1, d1⟩
  keep := fun k h h' S q => by
    obtain ⟨old, he⟩ := S.en
    exact ⟨⟨old, q e (by simp) _ he⟩, zbD S.it fun o x => q it (by simp) o x⟩
  item := by
    intro X hP hw hK hc i pins s σ H E I hf S hg
    subst hP hw hK
    obtain ⟨xs, x, h1, ex⟩ := hg
    obtain ⟨us, r1, p1, z1⟩ := I.seqB h1
    obtain ⟨u, eu, ru⟩ := r1.get ex
    obtain ⟨old, he⟩ := S.en
    obtain ⟨o1, e1, _, c1⟩ := yaR S.it
    have hh : X.A.handled = none := I.ok.hd hc
    have nl : ∀ c ∈ [e, it], l ≠ c := fun c hc => I.sq_ne h1 (hf c hc)
    have ei : e ≠ it := by rcases c1 with c | c <;> exact yaQ he e1 rfl c
    have ilt : i < us.toArray.size := by
      have := (List.getElem?_eq_some_iff.mp eu).1
      simpa using this
    refine wpAny_pyNext_enum_itemD (zfX b (A := X.A.in1) hh (nl it (by simp))) he ⟨S.it, p1⟩ ilt ei (by simp only [List.mem_cons, List.not_mem_nil, or_false, not_or]; exact ⟨ei, Ne.symm (nl e (by simp))⟩) fun y g tk hy a1 a2 a3 a4 a5 => ?_
    have ey : y = u := by
      have q1 : us[i]? = some y := by simpa using hy
      rw [eu] at q1; cases q1; rfl
    subst ey
    refine ⟨_, rfl, wpAny_letOwnedTupleGo_enum (s := { s with heap := g, toks := tk + 1 }) a1 fun g' he' t => ?_⟩
    have lt : ∀ {c : Addr} {o : Obj}, s.heap.get? c = some o → s.heap.objs.size ≠ c := fun q => Nat.ne_of_gt (Heap.lt_size q)
    have k' : ∀ c o, c ∉ [e, it] → s.heap.get? c = some o → g'.get? c = some o := fun c o hc q => by
      simp only [List.mem_cons, List.not_mem_nil, or_false, not_or] at hc
      exact t.extBut c o hc.1 (a5 c o hc.1 hc.2 q)
    have hS' : ESt b e it l (i + 1) g' := ⟨⟨_, by simpa using he'⟩, zbD a2.1 fun o q => t.extBut _ _ (Ne.symm ei) q⟩
    have fT : H s.heap.objs.size = none := I.hok.fresh (Nat.le_refl _)
    have J : Inv X pins σ (upd H s.heap.objs.size (.tup [.int i, x])) { s with heap := g', toks := tk + 1 } :=
      I.turnedT (t' := tk + 1) (fp := [e, it]) hf k' (Nat.le_refl _) (by show 2 ≤ sizeLine; decide) (its := #[.int i tk, y]) (.cons ⟨_, rfl⟩ (.cons ru .nil)) ⟨_, t.extBut _ _ (lt he) a3, rfl, _, rfl⟩
    refine ⟨.ref s.heap.objs.size, upd H s.heap.objs.size (.tup [.int i, x]), J, rfl, ⟨_, x, rfl, fT, rfl, fun xs' hx' => by rw [I.seqB_inj hx' h1]; exact ex⟩, hS', fun c hc => ?_⟩
    have fobj : ∃ o, s.heap.get? c = some o := by
      simp only [List.mem_cons, List.not_mem_nil, or_false] at hc
      rcases hc with rfl | rfl
      · exact ⟨_, he⟩
      · exact ⟨_, e1⟩
    obtain ⟨o, eo⟩ := fobj
    rw [zag (Ne.symm (lt eo))]
    exact (hf c hc).1
  done := by
    intro X hP hw hK hc i pins s σ H E I hf S hg
    subst hP hw hK
    obtain ⟨xs, h1, le⟩ := hg
    obtain ⟨us, r1, p1, z1⟩ := I.seqB h1
    obtain ⟨old, he⟩ := S.en
    have hh : X.A.handled = none := I.ok.hd hc
    have nl : ∀ c ∈ [e, it], l ≠ c := fun c hc => I.sq_ne h1 (hf c hc)
    have D := subB (P := X.prog) (w := X.w) b (A := X.A.in1) (xs := us.toArray) hh (nl it (by simp))
    have hT : s.TypeIs (.ref e) "enumerate" := ⟨_, he, rfl⟩
    unfold pyNext
    refine wpAny_bind (wpAny_attempt (wpAny_callSpecial?_slot (name := Str.ofString "__next__") hT F.slot_enumerate_next (wpAny_call_entry F.slot_enumerate_next hT F.entry_enumerate_next ?_ (F.args_enumerate_next_1 _))))
    show wpAny _ _ (field (.ref e) 2 >>= _) _ _ s; refine wpAny_bind (wpAny_field he rfl (x := .ref it) rfl ?_)
    refine wpAny_bind (D.stop i _ _ _ ⟨S.it, p1⟩ (by have := r1.length; simp; omega) fun g x t ⟨o, ho, hce⟩ => ?_)
    refine wpAny_bind (wpAny_isInstance (T := "StopIteration") (b := true) ⟨o, ho, hce⟩ isSubtype_stop (wpAny_pure ⟨rfl, ?_⟩))
    refine I.turnedL (t' := s.toks) (fp := [e, it]) hf fun c o hc q => ?_
    simp only [List.mem_cons, List.not_mem_nil, or_false, not_or] at hc
    exact t c o hc.2 q
  self := fun A i s Q E S h => let ⟨_, he⟩ := S.en; wpAny_pyIter_enum he h
theorem zdt (b : Bool) (l : Addr) (xs : Array Value) (n : Nat) (dct : Option Addr) (sl : Array (Option Value)) :
    Meets (Builtin.«enumerate.__new__» ⟨[.type "enumerate", .ref l], []⟩) (fun _ R s => s.heap.get? l = some { cls := .type (if b then "tuple" else "list"), dict := dct, data := .seq xs n, slots := sl } ∧ R (.ok (.ret (.ref (s.heap.push (yap b l)).objs.size))) { s with heap := (s.heap.push (yap b l)).push { cls := .type "enumerate", data := .fields #[.none, .bool false, .ref s.heap.objs.size, rawInt 0, .none, .none] } }) :=
  .of_wp fun prog w A R s h => by
    obtain ⟨hp, g, d, tk, os⟩ := s; obtain ⟨hl, h⟩ := h
    have hsub := sub_enumerate
    have hL : zbc b (Shared.heap ⟨hp, g, d, tk, os⟩) l xs := by cases b <;> exact ⟨_, hl, rfl, n, rfl⟩
    wp_walk using wpAny_loadPart' hl; (refine wpAny_stack_any fun st => wpAny_pure ?_); split
    · rename_i c _ _ _ _ _; cases (c == Value.type "enumerate") <;> (wp_walk using wpAny_loadPart' hl, yb3 hL; exact ⟨_, rfl, h⟩)
    · wp_walk using wpAny_loadPart' hl, yb3 hL; exact ⟨_, rfl, h⟩
theorem ydr {b : Bool} {h : Heap} {l : Addr} {xs : Array Value} (x : zbc b h l xs) : ∃ n dct sl, h.get? l = some { cls := .type (if b then "tuple" else "list"), dict := dct, data := .seq xs n, slots := sl } := by
  cases b <;> obtain ⟨⟨c, dct, dt, sl⟩, e, hc, n, hd⟩ := x
  · replace hc : c = .type "list" := hc
    replace hd : dt = .seq xs n := hd
    subst hc hd; exact ⟨n, dct, sl, e⟩
  · replace hc : c = .type "tuple" := hc
    replace hd : dt = .seq xs n := hd
    subst hc hd; exact ⟨n, dct, sl, e⟩
section
variable {X : Cx}
noncomputable def zf8 (K : PySem.W.Frag) (ta : TA) : TI := fun σ H R => ta σ H fun vs H1 => ∃ b a, vs = [.ref a] ∧ (∃ xs, SqB K b H1 a xs) ∧ R (Ite K b a) H1
theorem zfI {pins : List (Addr × Obj)} {σ : St} {H : Hp} {s : Shared} {R : It → Hp → Prop} {elts : List Expr} {kk : Nat} {tpos : Pos} {b : Bool} {l : Addr} {xs : List V} (I : Inv X pins σ H s) (h1 : SqB X.K b H l xs) (q : R (Ite X.K b l) H) :
    wpAny (model X.prog X.w) X.A (call (.type "enumerate") [.ref l]) (fun v s1 => wpAny (model X.prog X.w) X.A (pyIter v) (PIE X pins σ (.Tuple elts kk tpos) R) X.xe s1) X.xe s := by
  obtain ⟨us, r1, p1, z1⟩ := I.seqB h1
  obtain ⟨m, dct, sl, hl⟩ := ydr p1
  refine callType_new F.called_enumerate (by decide) (F.typeCall_enumerate_1 _) (F.newCall_enumerate_1 _) (fun obj => F.args_object_init_2 obj _) F.entry_enumerate_new (zdt b l us.toArray m dct sl) ⟨hl, ?_⟩
  generalize hn : s.heap.objs.size = n
  have s1 : (s.heap.push (yap b l)).objs.size = n + 1 := by rw [Heap.size_push, hn]
  generalize hG : (s.heap.push (yap b l)).push { cls := .type "enumerate", data := .fields #[.none, .bool false, .ref n, rawInt 0, .none, .none] } = G
  have old : ∀ c o, s.heap.get? c = some o → G.get? c = some o := fun c o e => hG ▸ Heap.get?_push_of_some _ (Heap.get?_push_of_some _ e)
  have ge : IsEnum G (n + 1) n 0 .none := by
    have e : G.get? (s.heap.push (yap b l)).objs.size = some { cls := .type "enumerate", data := .fields #[.none, .bool false, .ref n, rawInt 0, .none, .none] } := hG ▸ Heap.get?_push_size _ rfl
    rw [s1] at e; exact e
  have gi : G.get? n = some (yap b l) := by
    have e : G.get? s.heap.objs.size = some (yap b l) := hG ▸ Heap.get?_push_of_some _ (Heap.get?_push_size _ rfl)
    rw [hn] at e; exact e
  rw [s1]
  refine ⟨⟨_, ge, rfl⟩, wpAny_pyIter_enum ge ?_⟩
  have I1 : Inv X pins σ H { s with heap := G } := I.kept (t' := s.toks) old
  refine ⟨n + 1, [n + 1, n], _, _, H, rfl, I1, zeo b (n + 1) n l, ⟨⟨_, ge⟩, zcf _ _ _ _ gi⟩, fun c hc => ?_, q⟩
  have le : s.heap.objs.size ≤ c := by
    rw [hn]
    simp only [List.mem_cons, List.not_mem_nil, or_false] at hc
    show @LE.le Nat _ n c
    rcases hc with e | e <;> (have e' : @Eq Nat c _ := e; omega)
  exact I.fpOk le (I.hok.fresh le)
theorem ycm {a : Expr} {ta : TA} {p pos : Pos} {elts : List Expr} {kk : Nat} {tpos : Pos} (hg : Gl X "enumerate") (hm : X.mg "enumerate" = none) (ha : PA X [a] ta) (hs : starEach [a] X.env = [(false, eval a X.env)] := by rfl) :
    PI X (.Tuple elts kk tpos) (.Call (.Name "enumerate" p) [a] [] pos) (zf8 X.K ta) := by
  intro pins s σ H R I h
  refine Call_ (ybq I hg hm (u := .type "enumerate") boot_enumerate (PyProof.Rows.callWith_type1 (thn (ha pos pins s σ H _ I h) fun us s1 ⟨vs, H1, I1, r1, q1⟩ => ?_) hs rfl))
  obtain ⟨b, a, e, ⟨xs, h1⟩, q⟩ := q1
  subst e
  cases r1 with
  | cons r rr =>
    cases rr
    cases r
    exact zfI I1 h1 q
end
structure Seqs (J : It) (n : Nat) (G : Hp → Prop) (y : Nat → V → Hp → Hp → Prop) : Prop where
  go : ∀ i H, i < n → G H → J.go i H
  stop : ∀ H, G H → J.stop n H
  yld : ∀ i H x H', i < n → G H → J.yld i H x H' → y i x H H'
theorem zbd {K : PySem.W.Frag} {a : Addr} {xs : List V} : Seqs (Itl K a) xs.length (fun H => SqL K H a xs) (fun i x H H' => H' = H ∧ xs[i]? = some x) :=
  ⟨fun i H hi g => ⟨xs, xs[i], g, by simp [hi]⟩, fun H g => ⟨xs, g, Nat.le_refl _⟩, fun i H x H' hi g q => ⟨q.1, q.2 xs g⟩⟩
theorem za3 {K : PySem.W.Frag} {a : Addr} {xs : List V} : Seqs (Itt K a) xs.length (fun H => SqT K H a xs) (fun i x H H' => H' = H ∧ xs[i]? = some x) :=
  ⟨fun i H hi g => ⟨xs, xs[i], g, by simp [hi]⟩, fun H g => ⟨xs, g, Nat.le_refl _⟩, fun i H x H' hi g q => ⟨q.1, q.2 xs g⟩⟩
theorem zbe {lo : Int} {n : Nat} : Seqs (Itr lo n) n (fun _ => True) (fun i x H H' => H' = H ∧ x = .int (lo + i)) :=
  ⟨fun i H hi _ => hi, fun H _ => Nat.le_refl _, fun i H x H' hi _ q => q⟩
theorem yeY {K : PySem.W.Frag} {b1 b2 : Bool} {l1 l2 : Addr} {xs ys : List V} : Seqs (Itz K b1 b2 l1 l2) (min xs.length ys.length) (fun H => SqB K b1 H l1 xs ∧ SqB K b2 H l2 ys)
    (fun i x H H' => ∃ T u v, x = .ref T ∧ xs[i]? = some u ∧ ys[i]? = some v ∧ H T = none ∧ H' = upd H T (.tup [u, v])) :=
  ⟨fun i H hi g => ⟨xs, ys, xs[i]'(by omega), ys[i]'(by omega), g.1, g.2, by simp, by simp⟩,
   fun H g => ⟨xs, ys, g.1, g.2, by omega⟩,
   fun i H x H' hi g ⟨T, u, v, e1, e2, e3, e4, e5⟩ => ⟨T, u, v, e1, e4 xs g.1, e5 ys g.2, e2, e3⟩⟩
theorem zbw {K : PySem.W.Frag} {b : Bool} {l : Addr} {xs : List V} : Seqs (Ite K b l) xs.length (fun H => SqB K b H l xs)
    (fun i x H H' => ∃ T u, x = .ref T ∧ xs[i]? = some u ∧ H T = none ∧ H' = upd H T (.tup [.int i, u])) :=
  ⟨fun i H hi g => ⟨xs, xs[i], g, by simp [hi]⟩, fun H g => ⟨xs, g, Nat.le_refl _⟩, fun i H x H' hi g ⟨T, u, e1, e2, e3, e4⟩ => ⟨T, u, e1, e4 xs g, e2, e3⟩⟩
theorem zbV {J : It} {n : Nat} {G : Hp → Prop} {y : Nat → V → Hp → Hp → Prop} (S : Seqs J n G y) {g : TG} {tb : TS} {D : Ends} {σ : St} {H : Hp} (Pv : Nat → St → Hp → Prop) (h0 : Pv 0 σ H) (hl : ∀ i σ H, i ≤ n → Pv i σ H → G H)
    (hs : ∀ i x σ H H', i < n → Pv i σ H → y i x H H' → g x σ H' fun σ2 H2 => tb { D with nx := Pv (i + 1), ct := Pv (i + 1), bk := D.nx } σ2 H2) (hd : ∀ σ H, Pv n σ H → D.nx σ H) :
    ∃ W : Nat → Nat → St → Hp → Prop, (∃ m, W 0 m σ H) ∧ ∀ i m σ H, W i m σ H →
      (J.stop i H ∧ D.nx σ H) ∨ (J.go i H ∧ ∃ N : St → Hp → Prop, (∀ σ' H', N σ' H' → ∃ m', m' < m ∧ W (i + 1) m' σ' H') ∧ ∀ x H', J.yld i H x H' → g x σ H' fun σ2 H2 => tb { D with nx := N, ct := N, bk := D.nx } σ2 H2) := by
  refine ⟨fun i m σ H => m = n - i ∧ i ≤ n ∧ Pv i σ H, ⟨n, by simp, Nat.zero_le _, h0⟩, ?_⟩
  rintro i m σ H ⟨rfl, hi, p⟩
  by_cases hlt : i < n
  · exact .inr ⟨S.go i H hlt (hl i σ H hi p), Pv (i + 1), fun σ' H' p' => ⟨n - (i + 1), by omega, rfl, hlt, p'⟩, fun x H' q => hs i x σ H H' hlt p (S.yld i H x H' hlt (hl i σ H hi p) q)⟩
  · have e : i = n := by omega
    subst e
    exact .inl ⟨S.stop H (hl _ σ H hi p), hd σ H p⟩
theorem yar {J : It} {n : Nat} {G : Hp → Prop} {y : Nat → V → Hp → Hp → Prop} (S : Seqs J n G y) {σc : St} {g : TG} {ti : TT} {te : TE} {H : Hp} {Fn : List V → Hp → Prop} (Pv : Nat → List V → Hp → Prop) (h0 : Pv 0 [] H) (hl : ∀ i acc H, i ≤ n → Pv i acc H → G H)
    (hz : ∀ i acc H, i < n → Pv i acc H → acc.length < sizeLine)
    (hs : ∀ i acc x H H', i < n → Pv i acc H → y i x H H' → g x σc H' fun σ2 H2 => ti σ2 H2 fun b H3 => if b = true then te σ2 H3 fun v H4 => Pv (i + 1) (acc ++ [v]) H4 else Pv (i + 1) acc H3)
    (hd : ∀ acc H, Pv n acc H → Fn acc H) :
    ∃ W : yeU, (∃ m, W 0 m [] H) ∧ ∀ i m acc H, W i m acc H →
      (J.stop i H ∧ Fn acc H) ∨
      (J.go i H ∧ acc.length < sizeLine ∧ ∃ N : List V → Hp → Prop, (∀ acc' H', N acc' H' → ∃ m', m' < m ∧ W (i + 1) m' acc' H') ∧ ∀ x H', J.yld i H x H' → g x σc H' fun σ2 H2 => ti σ2 H2 fun b H3 => if b = true then te σ2 H3 fun v H4 => N (acc ++ [v]) H4 else N acc H3) := by
  refine ⟨fun i m acc H => m = n - i ∧ i ≤ n ∧ Pv i acc H, ⟨n, by simp, Nat.zero_le _, h0⟩, ?_⟩
  rintro i m acc H ⟨rfl, hi, p⟩
  by_cases hlt : i < n
  · exact .inr ⟨S.go i H hlt (hl i acc H hi p), hz i acc H hlt p, Pv (i + 1), fun acc' H' p' => ⟨n - (i + 1), by omega, rfl, hlt, p'⟩, fun x H' q => hs i acc x H H' hlt p (S.yld i H x H' hlt (hl i acc H hi p) q)⟩
  · have e : i = n := by omega
    subst e
    exact .inl ⟨S.stop H (hl _ acc H hi p), hd acc H p⟩
end L2
end
section
-- text: ExtF
set_option Elab.async false
set_option linter.all false
set_option maxRecDepth 100000
set_option maxHeartbeats 4000000
namespace L2
open PySem PySem.Spec PyProof.Rows
section
variable {X : Cx}
noncomputable def CDv (i j : Int) : Prop := 0 < j ∧ j < 2 ^ 64
theorem CDv.log {i j : Int} (h : CDv i j) : j.natAbs.log2 < 9000 := by
  obtain ⟨h1, h2⟩ := h
  have h0 : j.natAbs ≠ 0 := by omega
  have : j.natAbs < 2 ^ 64 := by omega
  exact Nat.lt_of_lt_of_le ((Nat.log2_lt h0).mpr this) (by decide)
theorem zc1 : OpR X (binaryOp .FloorDiv) (rI CDv fun i j => .int (i / j)) := opI fun i j _ _ _ _ _ hc q => by
  have h1 : (0 : Int) < j := hc.1
  exact floordiv_int (by omega) (by rw [Int.fdiv_eq_ediv_of_nonneg i (by omega)]; exact q) (.inl (PyProof.noPylong_of_log2 hc.log))
noncomputable def CDvB (i j : Int) : Prop := 0 < j ∧ j < 2 ^ 1000
theorem CDvB.log {i j : Int} (h : CDvB i j) : j.natAbs.log2 < 9000 := by
  obtain ⟨h1, h2⟩ := h
  have h0 : j.natAbs ≠ 0 := by omega
  have : j.natAbs < 2 ^ 1000 := by omega
  exact Nat.lt_of_lt_of_le ((Nat.log2_lt h0).mpr this) (by decide)
theorem zft : OpR X (binaryOp .FloorDiv) (rI CDvB fun i j => .int (i / j)) := opI fun i j _ _ _ _ _ hc q => by
  have h1 : (0 : Int) < j := hc.1
  exact floordiv_int (by omega) (by rw [Int.fdiv_eq_ediv_of_nonneg i (by omega)]; exact q) (.inl (PyProof.noPylong_of_log2 hc.log))
theorem zcj : OpR X (inplaceOp .FloorDiv) (rI CDv fun i j => .int (i / j)) := opI fun i j _ _ _ _ _ hc q => by
  have h1 : (0 : Int) < j := hc.1
  exact ifloordiv_int (by omega) (by rw [Int.fdiv_eq_ediv_of_nonneg i (by omega)]; exact q) (.inl (PyProof.noPylong_of_log2 hc.log))
theorem zfD : OpR X (binaryOp .Mult) (rI IntMulOk fun i j => .int (i * j)) := opI fun _ _ _ _ _ _ _ hc q => mul_int q hc
noncomputable def rNeE (K : PySem.W.Frag) : R2 := fun x y H Q => ∃ a b xs, x = .ref a ∧ y = .ref b ∧ SqL K H a xs ∧ SqL K H b [] ∧ Q (.bl (!xs.isEmpty)) H
theorem yff (hu : X.A.units < cLine) : OpR X (compareOp .NotEq) (rNeE X.K) := by
  intro pins s σ H x y v u Q I rx ry h
  obtain ⟨a, b, xs, rfl, rfl, ha, hb, q⟩ := h
  cases rx; cases ry
  obtain ⟨us, r1, p1, z1⟩ := I.list ha
  obtain ⟨vs, r2, p2, z2⟩ := I.list hb
  cases r2
  cases xs with
  | nil =>
    cases r1
    exact SeqAt.RcNeAt.lists (e := fun _ => true) p1.isList p2.isList rfl hu (fun j h1 _ => absurd h1 (by simp)) _ _ _ _ ⟨.bl false, H, I, rfl, q⟩
  | cons x xs =>
    cases r1
    exact SeqAt.RcNeAt.lists_lengths p1.isList p2.isList (by simp) hu _ _ _ _ ⟨.bl true, H, I, rfl, q⟩
noncomputable def tRev (K : PySem.W.Frag) (te : TE) : TE := fun σ H Q => te σ H fun x H1 => ∃ a xs, x = .ref a ∧ SqL K H1 a xs ∧ ∀ p, H1 p = none → Q (.ref p) (upd H1 p (.lst xs.reverse))
theorem zfN {e : Expr} {te : TE} {p0 p1 p2 pos : Pos} {j} (he : PE X e te) : PE X (.Subscript e (.Slice none none (some (.UnaryOp .USub (.Constant (.int 1) j p0) p1)) p2) pos) (tRev X.K te) := by
  intro pins s σ H Q I h
  refine Subscript_ (thn (he pins s σ H _ I h) fun v s1 ⟨x, H1, I1, r1, q1⟩ => ?_)
  obtain ⟨a, xs, rfl, hx, q⟩ := q1
  cases r1
  refine wpAny_Slice ?_
  rw [evalPart_none]
  refine wpAny_pure ?_
  refine wpAny_pure ?_
  rw [evalPart_some]
  refine thn ((zed zdh (yab (X := X))) pins s1 σ H1 (fun v H' => v = .int (-1) ∧ H' = H1) I1 ⟨1, rfl, rfl, rfl⟩) fun st s2 ⟨v, H2, I2, r2, e1, e2⟩ => ?_
  subst e1 e2
  obtain ⟨t, rfl⟩ := r2
  have I4 : Inv X pins σ H2 { s2 with heap := s2.heap.push { cls := .type "slice", data := .fields #[.none, .none, .int (-1) t] } } := I2.kept (t' := s2.toks) fun b ob q => Heap.get?_push_of_some _ q
  obtain ⟨its, r, ht, hz⟩ := I4.list hx
  have hlen := r.length
  show wpAny (model X.prog X.w) X.A (subscriptTail e _ (.ref a) (.ref s2.heap.objs.size)) (EP X pins σ Q) X.xe { s2 with heap := s2.heap.push { cls := .type "slice", data := .fields #[.none, .none, .int (-1) t] } }
  refine tail_any (ops := [.ref a, .ref s2.heap.objs.size]) ht.isList.typeIs slot_list_getitem.lookup ?_ (by with_unfolding_all rfl)
  refine wpAny_getItem_list_slice ht.isList (Heap.IsSliceOf.new ..) .none .none (.int (-1) t) (by simp) ?_ (by rw [List.size_toArray]; omega)
  rw [PySem.W.krv_pick]
  refine ⟨.ref _, _, I4.laid (t' := s2.toks) (o := .lst xs.reverse) (fun b ob q => Heap.get?_push_of_some _ q) (Nat.le_refl _) ?_, rfl, q _ (I4.hok.fresh (Nat.le_refl _))⟩
  exact ⟨by rw [List.length_reverse]; exact hz, its.reverse, 0, r.reverse, Heap.get?_push_size _ rfl⟩
theorem zbP : ∀ {bs : List Bool} {us : List Value}, Vals (bs.map V.bl) us → us = bs.map Value.bool
  | [], _, .nil => rfl
  | b :: bs, _, .cons r t => by cases r; rw [zbP t]; rfl
theorem yez (bs : List Bool) : (List.range bs.length).all (fun i => bs.getD i true) = bs.all id := by
  induction bs with
  | nil => rfl
  | cons b bs ih =>
    rw [List.length_cons, List.range_succ_eq_map, List.all_cons, List.all_cons, List.all_map]
    show ((b :: bs).getD 0 true && _) = _
    rw [List.getD_cons_zero]
    congr 1
theorem yel (bs : List Bool) : (List.range bs.length).any (fun i => bs.getD i true) = bs.any id := by
  induction bs with
  | nil => rfl
  | cons b bs ih =>
    rw [List.length_cons, List.range_succ_eq_map, List.any_cons, List.any_cons, List.any_map]
    show ((b :: bs).getD 0 true || _) = _
    rw [List.getD_cons_zero]
    congr 1
noncomputable def zeZ (K : PySem.W.Frag) (f : List Bool → Bool) : List V → Hp → VK → Prop := fun xs H Q => ∃ a bs, xs = [.ref a] ∧ SqL K H a (bs.map V.bl) ∧ Q (.bl (f bs)) H
theorem zb6 {P : Program} {w : World} {A : Around} {bs : List Bool} : TruthOf P w A (fun i v => (bs.map Value.bool).toArray[i]? = some v) (fun i => bs.getD i true) := by
  intro i v s Q E hv q
  have hv' : bs[i]?.map Value.bool = some v := by simpa using hv
  cases e : bs[i]? with
  | none => rw [e] at hv'; cases hv'
  | some b =>
    rw [e] at hv'; cases hv'
    have e2 : bs.getD i true = b := by simp [List.getD, e]
    have q' : Q (bs.getD i true) s := q
    rw [e2] at q'
    exact wpAny_truthy_bool q'
theorem zbB (hc : X.calm = true) : ybn X (.builtin "all") (zeZ X.K fun bs => bs.all id) := by
  intro pins s σ H xs us Q I r h
  obtain ⟨a, bs, rfl, ha, q⟩ := h
  obtain ⟨u, rfl, rx⟩ := ycJ r
  cases rx
  obtain ⟨its, r1, p1, z1⟩ := I.list ha
  have e := zbP r1
  subst e
  refine call_all_walk (wpAny_pyIter_list p1.isList ?_)
  have hh : X.A.in1.handled = none := I.ok.hd hc
  have ne : a ≠ s.heap.objs.size := fun z => by obtain ⟨o, n, e, _⟩ := p1; have l : s.heap.objs.size ≥ Nat.succ a := Heap.lt_size e; have z' : @Eq Nat a s.heap.objs.size := z; omega
  refine ⟨_, _, _, _, _, _, _, rfl, Walks.list hh s.heap.objs.size a ne _, ⟨⟨_, Heap.get?_push_size _ rfl, rfl, rfl⟩, p1.isList.push _⟩, zb6, fun h' tk k => ?_⟩
  have I1 : Inv X pins σ H { s with heap := h', toks := tk } := I.kept fun b o e => k b o (by simp only [List.mem_singleton]; exact Nat.ne_of_lt (Heap.lt_size e)) (Heap.get?_push_of_some _ e)
  refine ⟨.bl _, H, I1, ?_, q⟩
  show Value.bool _ = Value.bool _
  congr 1
  have := yez bs
  simpa using this
theorem zdC (hc : X.calm = true) : ybn X (.builtin "any") (zeZ X.K fun bs => bs.any id) := by
  intro pins s σ H xs us Q I r h
  obtain ⟨a, bs, rfl, ha, q⟩ := h
  obtain ⟨u, rfl, rx⟩ := ycJ r
  cases rx
  obtain ⟨its, r1, p1, z1⟩ := I.list ha
  have e := zbP r1
  subst e
  refine call_any_walk (wpAny_pyIter_list p1.isList ?_)
  have hh : X.A.in1.handled = none := I.ok.hd hc
  have ne : a ≠ s.heap.objs.size := fun z => by obtain ⟨o, n, e, _⟩ := p1; have l : s.heap.objs.size ≥ Nat.succ a := Heap.lt_size e; have z' : @Eq Nat a s.heap.objs.size := z; omega
  refine ⟨_, _, _, _, _, _, _, rfl, Walks.list hh s.heap.objs.size a ne _, ⟨⟨_, Heap.get?_push_size _ rfl, rfl, rfl⟩, p1.isList.push _⟩, zb6, fun h' tk k => ?_⟩
  have I1 : Inv X pins σ H { s with heap := h', toks := tk } := I.kept fun b o e => k b o (by simp only [List.mem_singleton]; exact Nat.ne_of_lt (Heap.lt_size e)) (Heap.get?_push_of_some _ e)
  refine ⟨.bl _, H, I1, ?_, q⟩
  show Value.bool _ = Value.bool _
  congr 1
  have := yel bs
  simpa using this
noncomputable def ygb (K : PySem.W.Frag) (H : Hp) : V → String → Prop
  | .non, T => T = "NoneType"
  | .bl _, T => T = "bool"
  | .int _, T => T = "int"
  | .str _, T => T = "str"
  | .ref a, T => (T = "list" ∧ ∃ xs, SqL K H a xs) ∨ (T = "tuple" ∧ ∃ xs, SqT K H a xs)
  | _, _ => False
noncomputable def subK (T U : String) : Bool := T == U || (T == "bool" && U == "int")
noncomputable def rIsi (K : PySem.W.Frag) (U : String) : List V → Hp → VK → Prop := fun xs H Q => ∃ x T, xs = [x, .ty U] ∧ ygb K H x T ∧ Q (.bl (subK T U)) H
theorem ybR {T U : String} (h : subK T U = false) : (Value.type T == Value.type U) = false := by
  have : T ≠ U := fun e => by subst e; simp [subK] at h
  simpa using this
theorem zcP {U : String} (hty : typeOf (.type U) = pure (.type "type")) (hs : ∀ T ∈ ["NoneType", "bool", "int", "str", "list", "tuple"], isSubtype (.type T) (.type U) = pure (subK T U)) : ybn X (.builtin "isinstance") (rIsi X.K U) := by
  intro pins s σ H xs us Q I r h
  obtain ⟨x, T, rfl, hk, q⟩ := h
  obtain ⟨u, w', rfl, rx, ry⟩ := yfI r
  cases ry
  have yes : ∀ {v : Value}, subK T U = true → s.TypeIs v T → T ∈ ["NoneType", "bool", "int", "str", "list", "tuple"] → wpAny (model X.prog X.w) X.A (call (.builtin "isinstance") [v, .type U]) (EP X pins σ Q) X.xe s := fun {v} hb ht hm =>
    call_isinstance_yes ht hty (by rw [hs T hm, hb]) ⟨.bl true, H, I, rfl, by rw [← hb]; exact q⟩
  have no : ∀ t, subK T U = false → EP X pins σ Q (.bool false) { s with toks := t } := fun t hb => ⟨.bl false, H, I.tok _, rfl, by rw [← hb]; exact q⟩
  cases x with
  | non =>
    cases rx; obtain rfl : T = "NoneType" := hk
    cases hb : subK "NoneType" U with
    | true => exact yes hb rfl (by simp)
    | false => exact call_isinstance (isinstance_false_none (ybR hb) hty (by rw [hs _ (by simp), hb])) (no _ hb)
  | bl b =>
    cases rx; obtain rfl : T = "bool" := hk
    cases hb : subK "bool" U with
    | true => exact yes hb rfl (by simp)
    | false => exact call_isinstance (isinstance_false_bool (ybR hb) hty (by rw [hs _ (by simp), hb])) (no _ hb)
  | int i =>
    obtain ⟨t, rfl⟩ := rx; obtain rfl : T = "int" := hk
    cases hb : subK "int" U with
    | true => exact yes hb (typeIs_int s i t) (by simp)
    | false => exact call_isinstance (isinstance_false_int (ybR hb) hty (by rw [hs _ (by simp), hb])) (no _ hb)
  | str i =>
    obtain ⟨t, rfl⟩ := rx; obtain rfl : T = "str" := hk
    cases hb : subK "str" U with
    | true => exact yes hb rfl (by simp)
    | false => exact call_isinstance (isinstance_false_str (ybR hb) hty (by rw [hs _ (by simp), hb])) (no _ hb)
  | ref a =>
    cases rx
    rcases hk with ⟨rfl, xs, hx⟩ | ⟨rfl, xs, hx⟩
    · obtain ⟨its, r1, p1, z1⟩ := I.list hx
      cases hb : subK "list" U with
      | true => exact yes hb p1.isList.typeIs (by simp)
      | false => exact call_isinstance (isinstance_false_list (ybR hb) hty (by rw [hs _ (by simp), hb])) ⟨let ⟨o, e, c, _⟩ := p1.isList; ⟨o, e, c⟩, no _ hb⟩
    · obtain ⟨its, r1, p1, z1⟩ := I.tuple hx
      cases hb : subK "tuple" U with
      | true => exact yes hb (show s.TypeIs (.ref a) "tuple" from let ⟨o, e, c, _⟩ := p1; ⟨o, e, c⟩) (by simp)
      | false => exact call_isinstance (isinstance_false_tuple (ybR hb) hty (by rw [hs _ (by simp), hb])) ⟨let ⟨o, e, c, _⟩ := p1; ⟨o, e, c⟩, no _ hb⟩
  | _ => exact False.elim hk
theorem zeA : ybn X (.builtin "isinstance") (rIsi X.K "int") := zcP (by rfl) (by intro T hT; simp only [List.mem_cons, List.not_mem_nil, or_false] at hT; rcases hT with rfl | rfl | rfl | rfl | rfl | rfl <;> (rw [isSubtype_type]; kernel_rfl))
theorem ydD : ybn X (.builtin "isinstance") (rIsi X.K "bool") := zcP (by rfl) (by intro T hT; simp only [List.mem_cons, List.not_mem_nil, or_false] at hT; rcases hT with rfl | rfl | rfl | rfl | rfl | rfl <;> (rw [isSubtype_type]; kernel_rfl))
theorem ybv : ybn X (.builtin "isinstance") (rIsi X.K "tuple") := zcP (by rfl) (by intro T hT; simp only [List.mem_cons, List.not_mem_nil, or_false] at hT; rcases hT with rfl | rfl | rfl | rfl | rfl | rfl <;> (rw [isSubtype_type]; kernel_rfl))
noncomputable def Itd (hi : Int) (n : Nat) : It := ⟨fun i _ => i < n, fun i H x H' => H' = H ∧ x = .int (hi - i), fun i _ => n ≤ i⟩
theorem zeE {P : Program} {w : World} {K : PySem.W.Frag} {tg : Expr} (it : Addr) (hi : Int) (n : Nat) : Turn P w K tg (Itd hi n) [it] it (fun i h => IsRangeIter h it (hi + (i : Nat) * (-1)) ((n : Int) - (i : Nat)) (-1)) where
  mem := by simp
  obj := fun i h st b hb => by
    have e : b = it := by simpa using hb
    subst e
    exact ⟨_, st, fun v z => by have z' : Data.fields _ = Data.cell v := z; cases z'⟩
  keep := fun i h h' st k => k it (by simp) _ st
  item := by
    intro X hP hw hK hc i pins s σ H E I hf st hg
    subst hP hw hK
    obtain ⟨f0, f1, f2, f3, f4, f5⟩ := hf it (by simp)
    have W := Walks.range (prog := X.prog) (w := X.w) (I.ok.hd hc) it hi (-1) n
    refine W.item i s _ _ hg st fun v h' tk hv st' kk => ?_
    obtain ⟨t, rfl⟩ := hv
    have I1 : Inv X pins σ H { s with heap := h', toks := tk } := I.turned (fun b o hb e => kk b o (by simpa using hb) e) f0 f1 f3 f4 f5
    refine ⟨_, rfl, ye0 (s := { s with heap := h', toks := tk }) (n := "range_iterator") st' rfl rfl (by decide) ⟨.int (hi - i), H, I1, ⟨t, ?_⟩, ⟨rfl, rfl⟩, st', fun b hb => (hf b hb).1⟩⟩
    congr 1; omega
  done := by
    intro X hP hw hK hc i pins s σ H E I hf st hg
    subst hP hw hK
    obtain ⟨f0, f1, f2, f3, f4, f5⟩ := hf it (by simp)
    exact wpAny_pyNext_range_end (I.ok.hd hc) st (by have : n ≤ i := hg; omega) fun h' eb => ⟨rfl, I.turned (t' := s.toks) (fun b o hb e => eb b o hb e) f0 f1 f3 f4 f5⟩
  self := fun _ _ _ _ _ st h => wpAny_pyIter_rangeiter st h
theorem zd8 {hi : Int} {n : Nat} : Seqs (Itd hi n) n (fun _ => True) (fun i x H H' => H' = H ∧ x = .int (hi - i)) :=
  ⟨fun i H hi _ => hi, fun H _ => Nat.le_refl _, fun i H x H' hi _ q => q⟩
noncomputable def yge (ta : TA) : TI := fun σ H R => ta σ H fun vs H1 => ∃ i j : Int, vs = [.int i, .int j, .int (-1)] ∧ (-(2 ^ 62) ≤ i ∧ i < 2 ^ 62 ∧ -(2 ^ 62) ≤ j ∧ j < 2 ^ 62) ∧ R (Itd i (i - j).toNat) H1
theorem yfB {a b c : Expr} {ta : TA} {tg : Expr} {p pos : Pos} (hg : Gl X "range") (hm : X.mg "range" = none) (ha : PA X [a, b, c] ta) (hs : starEach [a, b, c] X.env = (false, eval a X.env) :: starEach [b, c] X.env := by rfl) (hs2 : (backTo pos (starEach [b, c] X.env)).any (·.1) = false := by rfl) :
    PI X tg (.Call (.Name "range" p) [a, b, c] [] pos) (yge ta) := by
  intro pins s σ H R I h
  refine Call_ (ybq I hg hm boot_range (PyProof.Rows.callWith_type1 (thn (ha pos pins s σ H _ I h) fun us s1 ⟨vs, H1, I1, r1, q1⟩ => ?_) hs hs2))
  obtain ⟨i, j, e, ⟨b1, b2, b3, b4⟩, q⟩ := q1
  subst e
  cases r1 with
  | cons r rr =>
    cases rr with
    | cons r' rr =>
      cases rr with
      | cons r'' rr =>
        cases rr
        obtain ⟨t, rfl⟩ := r
        obtain ⟨t', rfl⟩ := r'
        obtain ⟨t'', rfl⟩ := r''
        refine call_range_3 (by decide) ?_ (.inl (PyProof.noPylong_small (by decide)))
        refine wpAny_pyIter_range (IsRange.new ..) (PySem.W.small_down b1 b2 b3 b4) ?_
        generalize hG : s1.heap.push { cls := .type "range", data := .fields #[.int i t, .int j t', .int (-1) t''] } = G
        have I2 : Inv X pins σ H1 { s1 with heap := G } := I1.kept (t' := s1.toks) fun b o e => hG ▸ Heap.get?_push_of_some _ e
        refine ⟨G.objs.size, [G.objs.size], _, _, H1, rfl, I2.kept (t' := s1.toks) fun b o e => Heap.get?_push_of_some _ e, zeE _ i (i - j).toNat, ?_, fun b hb => ?_, q⟩
        · have e1 : i + ((0 : Nat) : Int) * (-1) = i := by simp
          have e2 : (((i - j).toNat : Nat) : Int) - ((0 : Nat) : Int) = Builtin.Range.rangeSize i j (-1) := by rw [PySem.W.rangeSize_downNat]; simp
          show IsRangeIter _ _ (i + ((0 : Nat) : Int) * (-1)) ((((i - j).toNat : Nat) : Int) - ((0 : Nat) : Int)) (-1)
          rw [e1, e2]
          exact Heap.get?_push_size _ rfl
        · have e : b = G.objs.size := by simpa using hb
          subst e
          exact I2.fpOk (Nat.le_refl _) (I2.hok.fresh (Nat.le_refl _))
noncomputable def tRng (ta : TA) : TE := fun σ H Q => ta σ H fun vs H1 => ∃ j : Int, vs = [.int j] ∧ ∀ p, H1 p = none → Q (.ref p) (upd H1 p (.rng 0 j))
theorem yeI {a : Expr} {ta : TA} {p pos : Pos} (hg : Gl X "range") (hm : X.mg "range" = none) (ha : PA X [a] ta) (hs : starEach [a] X.env = [(false, eval a X.env)] := by rfl) : PE X (.Call (.Name "range" p) [a] [] pos) (tRng ta) := by
  intro pins s σ H Q I h
  refine Call_ (ybq I hg hm boot_range (PyProof.Rows.callWith_type1 (thn (ha pos pins s σ H _ I h) fun us s1 ⟨vs, H1, I1, r1, q1⟩ => ?_) hs rfl))
  obtain ⟨j, e, q⟩ := q1
  subst e
  cases r1 with
  | cons r rr =>
    cases rr
    obtain ⟨t, rfl⟩ := r
    exact call_range_1 ⟨.ref _, _, I1.laid (o := .rng 0 j) (fun b o e => Heap.get?_push_of_some _ e) (Nat.le_refl _) ⟨_, _, _, Heap.get?_push_size _ rfl⟩, rfl, q _ I1.fresh⟩
noncomputable def intsFrom (lo : Int) (n : Nat) : List V := (List.range n).map fun (i : Nat) => V.int (lo + (i : Int))
theorem yb6 : ∀ {xs : List V} {us : List Value}, xs.length = us.length → (∀ (i : Nat) x u, xs[i]? = some x → us[i]? = some u → RelV x u) → Vals xs us
  | [], [], _, _ => .nil
  | [], _ :: _, h, _ => by simp at h
  | _ :: _, [], h, _ => by simp at h
  | x :: xs, u :: us, h, g => .cons (g 0 x u rfl rfl) (yb6 (by simpa using h) fun i y v e1 e2 => g (i + 1) y v (by simpa using e1) (by simpa using e2))
theorem yc8 {lo : Int} {n : Nat} {acc : Array Value} (h : ItemsOf (fun i v => ∃ t, v = .int (lo + i * 1) t) acc n) : Vals (intsFrom lo n) acc.toList := by
  refine yb6 (by simp [intsFrom, h.1]) fun i x u e1 e2 => ?_
  obtain ⟨t, rfl⟩ := h.2 i u (by simpa using e2)
  have : x = V.int (lo + i) := by
    unfold intsFrom at e1
    rw [List.getElem?_map] at e1
    cases hr : (List.range n)[i]? with
    | none => rw [hr] at e1; cases e1
    | some j =>
      rw [hr] at e1
      have : j = i := by
        obtain ⟨h1, h2⟩ := List.getElem?_eq_some_iff.mp hr
        simpa using h2.symm
      subst this
      exact (Option.some.inj e1).symm
  subst this
  exact ⟨t, by simp⟩
theorem zcF (hc : X.calm = true) : ybn X (.type "list") (fun xs H Q => ∃ p lo hi, xs = [.ref p] ∧ H p = some (.rng lo hi) ∧ (-(2 ^ 62) ≤ lo ∧ lo < 2 ^ 62 ∧ -(2 ^ 62) ≤ hi ∧ hi < 2 ^ 62) ∧ (hi - lo).toNat ≤ sizeLine ∧ ∀ l, H l = none → Q (.ref l) (upd H l (.lst (intsFrom lo (hi - lo).toNat)))) := by
  intro pins s σ H xs us Q I r h
  obtain ⟨p, lo, hi, rfl, hp, ⟨b1, b2, b3, b4⟩, hz, q⟩ := h
  obtain ⟨u, rfl, rx⟩ := ycJ r
  cases rx
  obtain ⟨t, u, v, e⟩ := I.hok p _ hp
  refine call_list_range (n := (hi - lo).toNat) (I.ok.hd hc) e (small_one b1 b2 b3 b4) (by rw [rangeSize_one]; split <;> omega) (by have := sizeLine_eq; omega) fun h' tk acc c k ho hi' => ?_
  have rv := yc8 hi'
  refine ⟨.ref _, _, I.laid (t' := tk) k (Nat.le_refl _) (show ya7 X.prog X.w _ h' _ (.lst (intsFrom lo (hi - lo).toNat)) from ⟨?_, acc.toList, c, rv, by simpa using ho⟩), rfl, q _ I.fresh⟩
  simpa [intsFrom] using hz
noncomputable def Has (P : Program) (w : World) (K : PySem.W.Frag) (mg : Str → Option Value) (base : Heap) (n : Nat) (x : Str) (ps : List Str) (sp : Sp) : Prop :=
  ∃ f fd, FnOk P w K mg base CX0 n f fd ps sp ∧ zdS K fd ps [] ∧ PySem.W.keepIn K (.ref f) = true ∧ mg x = some (.ref f)
theorem yad {n k : Nat} {x : Str} {ps : List Str} {sp : Sp} {e : Expr} {es : List Expr} {t : TA} {p pos : Pos} (h : Has X.prog X.w X.K X.mg X.base n x ps sp) (hr : Room k X.A) (hle : n ≤ k) (hg : Gl X x) (ha : PA X (e :: es) t)
    (hdb : (x == ("__debug__" : Str)) = false := by decide) (he : starEach (e :: es) X.env = (false, eval e X.env) :: starEach es X.env := by rfl) (hpl : (backTo pos (starEach es X.env)).any (·.1) = false := by rfl) :
    PE X (.Call (.Name x p) (e :: es) [] pos) (zfC sp [] E0 t) := by
  obtain ⟨f, fd, F, B, kp, m⟩ := h
  exact yfp F (hr.mono hle) hg m kp B .nil ygi ha hdb he hpl
theorem zaK {c : TT} {tb : TS} {D : Ends} {σ : St} {H : Hp} (Pv : St → Hp → Prop) (μ : St → Hp → Nat) (h0 : Pv σ H)
    (hs : ∀ σ H, Pv σ H → c σ H fun b H1 => if b = true then ∃ N : St → Hp → Prop, (∀ σ' H', N σ' H' → ∃ m', m' < μ σ H ∧ m' = μ σ' H' ∧ Pv σ' H') ∧ tb { D with nx := N, ct := N, bk := D.nx } σ H1 else D.nx σ H1) : zfj c tb D σ H := by
  refine ⟨fun m σ H => m = μ σ H ∧ Pv σ H, ⟨_, rfl, h0⟩, ?_⟩
  rintro m σ H ⟨rfl, p⟩
  exact hs σ H p
end
end L2
end
section
-- text: ExtG
set_option Elab.async false
set_option linter.all false
set_option maxRecDepth 100000
set_option maxHeartbeats 4000000
namespace L2
open PySem PySem.Spec PyProof.Rows
section
variable {X : Cx}
theorem ycY : bootBuiltins "list" = some (.type "list") := by decide +kernel
theorem yao : bootBuiltins "tuple" = some (.type "tuple") := by decide +kernel
theorem yca : bootBuiltins "int" = some (.type "int") := by decide +kernel
theorem zbZ : bootBuiltins "bool" = some (.type "bool") := by decide +kernel
theorem ycc : bootBuiltins "abs" = some (.builtin "abs") := by decide +kernel
theorem ycd : bootBuiltins "min" = some (.builtin "min") := by decide +kernel
theorem zcd : bootBuiltins "max" = some (.builtin "max") := by decide +kernel
theorem zcc : bootBuiltins "any" = some (.builtin "any") := by decide +kernel
theorem yb1 (i : Int) (t : Tok) : RelV (.int i) (.int i t) := ⟨t, rfl⟩
theorem zeD {es : List Expr} {k : Nat} {t : TGs} {n : Nat} {pos : Pos} {K : PySem.W.Frag} (hK : X.K = K) (hc : X.calm = true) (h : PGs X es t)
    (hn : (assignEach es X.env).length = n := by rfl) (hst : (assignEach es X.env).findIdx? (·.1) = none := by rfl) : PG X (.Tuple es k pos) (gTup K n t) := hK ▸ zaQ hc h hn hst
end
end L2
end
section
-- text: ExtH
set_option Elab.async false
set_option linter.all false
set_option maxRecDepth 100000
set_option maxHeartbeats 4000000
namespace L2
open PySem PySem.Spec PyProof.Rows
theorem zeO {prog : Program} {w : World} {A : Around} {E : Value → Shared → Prop} {s : Shared} {a : Addr} {xs : Array Value} {k : Nat} {sl : Array (Option Value)} {u : Tok} {Q : Value → Shared → Prop}
    (hx : s.heap.get? a = some { cls := .type "list", dict := none, data := .seq xs k, slots := sl }) (hA : A.handled = none)
    (h : ∀ h' tk e, Heap.NewExcOf s.heap h' e "AttributeError" → E (.ref e) { s with heap := h', toks := tk }) :
    wpAny (model prog w) A (getAttrBy (.ref a) (.str "keys" u) false) Q E s := by
  have hmiss : typeLookup (.type "list") "keys" = pure none := by rw [typeLookup_type, builtinLookup_eq_fast]; kernel_rfl
  obtain ⟨hp, g, d, tk, os⟩ := s
  have hT : ∀ tk', (⟨hp, g, d, tk', os⟩ : Shared).TypeIs (.ref a) "list" := fun _ => ⟨_, hx, rfl⟩
  have f1 := sub_AttributeError
  have f3 := F.slot_list_getattribute.lookup
  have f4 := F.slot_list_getattribute.bind (.ref a)
  have f5 := am_list_getattr_none
  unfold getAttrBy
  repeat (any_goals (first | assumption | exact hT _ | ((with_reducible show wpAny _ _ (call (Value.builtin "list.__getattribute__") _ _) _ _ _); refine call_meets F.slot_list_getattribute (hT _) am_entry_list_getattribute (F.args_list_getattribute_2 _ _) (meets_getattribute_miss_list a xs k sl "keys" _ hmiss (by decide +kernel)) ⟨hx, hA, fun h' tk' e hx' => ?_⟩) | wp_step))
  obtain ⟨t', u', he⟩ := hx'.there
  show wpAny _ _ (getattributeRaised _ _ _ _ _ _ _) _ _ _
  unfold getattributeRaised
  repeat (any_goals (first | assumption | wp_step))
  exact h _ _ _ hx'.of
theorem yeD {prog : Program} {w : World} {A : Around} {E : Value → Shared → Prop} {s : Shared} {a : Addr} {xs : Array Value} {k : Nat} {sl : Array (Option Value)} {Q : Option Value → Shared → Prop}
    (hx : s.heap.get? a = some { cls := .type "list", dict := none, data := .seq xs k, slots := sl }) (hA : A.handled = none)
    (h : ∀ h' tk, (∀ b o, s.heap.get? b = some o → h'.get? b = some o) → Q none { s with heap := h', toks := tk }) :
    wpAny (model prog w) A (getAttr? (.ref a) "keys") Q E s := by
  have f1 := sub_AttributeError
  unfold getAttr? getAttrBy?
  refine wpAny_bind (wpAny_mkText ?_)
  refine wpAny_bind ?_
  refine wpAny_attempt ?_
  refine zeO (by exact hx) hA fun h' tk e ne => ?_
  obtain ⟨oe, _, he, hc, _⟩ := ne.there
  show wpAny _ _ (isInstance (.ref e) (.type "AttributeError") >>= _) _ _ _
  refine wpAny_bind (wpAny_isInstance ⟨_, he, hc⟩ f1 ?_)
  exact wpAny_pure (h _ _ ne.keeps)
theorem ybr : entryFor table "dict.update.loop" = some Builtin.«dict.update.loop» := entryFor_of_fast (by kernel_rfl)
theorem zaL : plainId "dict.update.loop" = true := by decide +kernel
section
variable {prog : Program} {w : World} {K : Type} [DecidableEq K] {knd : KeyKind prog w K} {A : Around} {R : Result → Shared → Prop} {I ax d : Addr}
theorem zel (hh : A.in1.handled = none) (items : Array Value) (more : List (K × Value)) (hne : ax ≠ I) (hdI : d ≠ I) (hda : d ≠ ax) (hsz : items.size ≤ sizeLine) (hml : more.length = items.size)
    (tp : Nat → Addr) (hit : ∀ j, j < items.size → items[j]? = some (.ref (tp j))) (htd : ∀ j, j < items.size → tp j ≠ d ∧ tp j ≠ I) :
    ∀ (k i : Nat) (s : Shared) (t : Tok) (kvs : List (K × Value)), items.size - i = k → i ≤ items.size → s.heap.IsListIter I ax i ∧ s.heap.IsList ax items → s.heap.DictOf knd d kvs → kvs.length ≤ i →
    (∀ j kv, more[j]? = some kv → ∃ key, knd.is kv.1 key = true ∧ s.heap.IsTuple (tp j) #[key, kv.2]) →
    (∀ s', s'.heap.DictOf knd d (merged kvs (more.drop i)) → (∀ b o, b ≠ I → b ≠ d → s.heap.get? b = some o → s'.heap.get? b = some o) → (∃ h' tk, s' = { s with heap := h', toks := tk }) → R (.ok (.ret .none)) s') →
    codeAny (model prog w) A (.builtin "dict.update.loop" ⟨[.ref d, .ref I, .int (i : Int) t, .none], []⟩) R s := by
  have W := Walks.list (prog := prog) (w := w) hh I ax hne items
  intro k
  induction k with
  | zero =>
    intro i s t kvs hk hi hst hd hkl hpairs hR
    have hin : i = items.size := by omega
    subst hin
    refine codeAny_builtin ybr ?_
    rw [Around.under_plainId zaL _]
    show wpAny _ A.in1 (pyNext (.ref I) >>= _) _ _ s
    refine wpAny_bind (W.done s _ _ hst fun h' tk hk' => ?_)
    have hm : more.drop items.size = [] := List.drop_of_length_le (by omega)
    rw [hm] at hR
    have hd' : h'.DictOf knd d kvs := hd.at fun o e => hk' d o (by simp [hdI]) e
    refine wpAny_pure (hR { s with heap := h', toks := tk } hd' (fun b o h1 h2 e => hk' b o (by simp [h1]) e) ⟨_, _, rfl⟩)
  | succ k ih =>
    intro i s t kvs hk hi hst hd hkl hpairs hR
    have hlt : i < items.size := by omega
    refine codeAny_builtin ybr ?_
    rw [Around.under_plainId zaL _]
    show wpAny _ A.in1 (pyNext (.ref I) >>= _) _ _ s
    refine wpAny_bind (W.item i s _ _ hlt hst fun v h' tk hP hst' hk' => ?_)
    rw [hit i hlt] at hP
    cases hP
    obtain ⟨kv, hkv⟩ : ∃ kv, more[i]? = some kv := ⟨more[i]'(by omega), List.getElem?_eq_getElem (by omega)⟩
    obtain ⟨key, hkey, htup⟩ := hpairs i kv hkv
    have htup' : h'.IsTuple (tp i) #[key, kv.2] := htup.at fun o e => hk' _ o (by simp [(htd i hlt).2]) e
    obtain ⟨ot, hot, hoc, nn, hod⟩ := id htup'
    have hd' : h'.DictOf knd d kvs := hd.at fun o e => hk' d o (by simp [hdI]) e
    refine wpAny_bind (wpAny_holding ?_)
    refine wpAny_bind (wpAny_tryCatch ?_)
    unfold Builtin.Dict.pairItems
    refine wpAny_bind (wpAny_typeOf ⟨_, hot, hoc⟩ ?_)
    rw [if_pos (by decide)]
    refine wpAny_bind (wpAny_seqItems hot hod ?_)
    refine wpAny_pure ?_
    show wpAny _ A.in1 (holding [key, kv.2] (dictSet d key kv.2)) _ _ _
    refine wpAny_holding (wpAny_dictSet_pairs (hsz := by omega) hkey hd' fun h2 hd2 hs2 => ?_)
    have step : more.drop i = kv :: more.drop (i + 1) := by
      rw [List.drop_eq_getElem_cons (by omega)]
      congr 1
      exact Option.some.inj ((List.getElem?_eq_getElem (by omega)).symm.trans hkv)
    refine wpAny_pure ⟨plainId_quiet zaL _, ih (i + 1) _ _ (stored kvs kv.1 kv.2) (by omega) hlt ?_ hd2 ?_ (fun j kv' hj => ?_) fun s' h1 h2' h3 => hR s' ?_ (fun b o n1 n2 e => h2' b o n1 n2 (hs2.extBut b o n2 (hk' b o (by simp [n1]) e))) ?_⟩
    · exact W.frame _ _ _ hst' fun b hb o e => hs2.extBut b o (by simp only [List.mem_cons, List.not_mem_nil, or_false] at hb; rcases hb with rfl | rfl; exact Ne.symm hdI; exact Ne.symm hda) e
    · have := stored_length_le kvs kv.1 kv.2; omega
    · obtain ⟨key', a1, a2⟩ := hpairs j kv' hj
      have hj' : j < items.size := by rw [← hml]; exact (List.getElem?_eq_some_iff.mp hj).1
      exact ⟨key', a1, (a2.at fun o e => hk' _ o (by simp [(htd j hj').2]) e).at fun o e => hs2.extBut _ o (htd j hj').1 e⟩
    · rw [step]; exact h1
    · obtain ⟨h4, tk4, rfl⟩ := h3; exact ⟨_, _, rfl⟩
end
section
variable {X : Cx}
theorem Vals.getR : ∀ {xs : List V} {us : List Value}, Vals xs us → ∀ (j : Nat) x u, xs[j]? = some x → us[j]? = some u → RelV x u
  | _, _, .nil, j, x, u, e, _ => by simp at e
  | _ :: _, _ :: _, .cons r t, 0, x, u, e1, e2 => by simp at e1 e2; subst e1 e2; exact r
  | _ :: _, _ :: _, .cons r t, j + 1, x, u, e1, e2 => Vals.getR t j x u (by simpa using e1) (by simpa using e2)
noncomputable def zfx : List V → Hp → VK → Prop := fun xs H Q => ∃ (a : Addr) (ts : List Addr) (kvs : List (Key × V)), xs = [.ref a] ∧ H a = some (.lst (ts.map V.ref)) ∧ ts.length = kvs.length ∧ kvs.length ≤ sizeLine ∧
  (∀ (j : Nat) t kv, ts[j]? = some t → kvs[j]? = some kv → H t = some (.tup [kV kv.1, kv.2])) ∧ (kvs.map (·.1)).Nodup ∧ ∀ D, H D = none → Q (.ref D) (upd H D (.dK kvs))
theorem yct {P : Program} {w : World} {pins : List (Addr × Obj)} {σ : St} {H : Hp} {s : Shared} (I : Inv X pins σ H s) : ∀ (ts : List Addr) (kvs : List (Key × V)), ts.length = kvs.length → (∀ (j : Nat) t kv, ts[j]? = some t → kvs[j]? = some kv → H t = some (.tup [kV kv.1, kv.2])) →
    ∃ vs : List (Key × Value), KV kvs vs ∧ vs.length = ts.length ∧ ∀ (j : Nat) kv t, vs[j]? = some kv → ts[j]? = some t → ∃ key, (zaz P w).is kv.1 key = true ∧ s.heap.IsTuple t #[key, kv.2]
  | [], [], _, _ => ⟨[], .nil, rfl, fun j kv t e => by simp at e⟩
  | [], _ :: _, h, _ => by simp at h
  | _ :: _, [], h, _ => by simp at h
  | t :: ts, kv :: kvs, h, hp => by
    obtain ⟨vs, h1, h2, h3⟩ := yct I ts kvs (by simpa using h) fun j t' kv' e1 e2 => hp (j + 1) t' kv' (by simpa using e1) (by simpa using e2)
    obtain ⟨its, r, p, _⟩ := I.tuple (SqT.of (hp 0 t kv rfl rfl))
    cases r with
    | cons ra rr =>
      cases rr with
      | cons rb rz =>
        cases rz
        rename_i ka va
        refine ⟨(kv.1, va) :: vs, .cons ⟨rfl, rb⟩ h1, by simp [h2], fun j kv' t' e1 e2 => ?_⟩
        cases j with
        | zero =>
          simp at e1 e2
          subst e1 e2
          exact ⟨ka, zeX ra, p⟩
        | succ j => exact h3 j kv' t' (by simpa using e1) (by simpa using e2)
theorem zcg (hc : X.calm = true) : ybn X (.type "dict") zfx := by
  intro pins s σ H xs us Q I r h
  obtain ⟨a, ts, kvs, rfl, ha, hl, hsz, hp, hn, q⟩ := h
  obtain ⟨u, rfl, rx⟩ := ycJ r
  cases rx
  obtain ⟨its, r1, p1, z1⟩ := I.list (SqL.of ha)
  refine callType_codes (Q₁ := fun obj s₁ => obj = .ref s.heap.objs.size ∧ s₁ = { s with heap := s.heap.push { cls := .type "dict", data := .dict #[] } }) F.kt_called_dict (F.kt_typeCall_dict_1 _) F.entry_dict_init (kt_code_dict_new _ ⟨rfl, rfl⟩) ?_
  rintro obj s₁ ⟨rfl, rfl⟩
  have hnew : (s.heap.push { cls := .type "dict", data := .dict #[] }).DictOf (zaz X.prog X.w) s.heap.objs.size [] := Heap.DictOf.new s.heap
  refine ⟨hnew.typeIs, F.args_dict_init_2 _ _, ?_⟩
  unfold Builtin.«dict.__init__»
  refine wpAny_bind ?_
  unfold Builtin.Dict.selfAndRest
  refine wpAny_bind (wpAny_notOrdered_dict hnew.typeIs ?_)
  show wpAny _ _ (pure (s.heap.objs.size, [Value.ref a])) _ _ _
  refine wpAny_pure ?_
  show wpAny _ _ (Builtin.Dict.updateFrom "dict.__init__" s.heap.objs.size (.ref a) [] .none) _ _ _
  unfold Builtin.Dict.updateFrom
  have hne : ∀ b o, s.heap.get? b = some o → b ≠ s.heap.objs.size := fun b o e z => by have l : s.heap.objs.size ≥ Nat.succ b := Heap.lt_size e; have z' : @Eq Nat b s.heap.objs.size := z; omega
  obtain ⟨vs, hKV, hvl, hvs⟩ := yct (P := X.prog) (w := X.w) I ts kvs hl hp
  have hA : X.A.in1.in1.handled = none := I.ok.hd hc
  obtain ⟨⟨ca, da, dta, sla⟩, na, hoa, hca, hda, hdt⟩ := id p1
  dsimp only at hca hda hdt
  subst hca hda hdt
  have e1 : (s.heap.push { cls := .type "dict", data := .dict #[] }).get? a = some { cls := .type "list", dict := none, data := .seq its.toArray na, slots := sla } := Heap.get?_push_of_some _ hoa
  refine wpAny_bind (wpAny_typeOf ⟨_, e1, rfl⟩ ?_)
  dsimp only
  rw [if_pos (by decide)]
  refine wpAny_bind (yeD e1 hA fun h1 tk1 hk1 => ?_)
  rw [if_pos (show (none : Option Value).isNone = true from rfl)]
  refine wpAny_bind (wpAny_rule ?_)
  have e2 : h1.IsList a its.toArray := ⟨_, hk1 _ _ e1, rfl, na, rfl⟩
  refine wpAny_bind (wpAny_pyIter_list e2 ?_)
  have hN : s.heap.objs.size < h1.objs.size := Heap.lt_size (hk1 _ _ (Heap.get?_push_size _ rfl))
  have hI : ∀ b o, h1.get? b = some o → b ≠ h1.objs.size := fun b o e z => by have l : h1.objs.size ≥ Nat.succ b := Heap.lt_size e; have z' : @Eq Nat b h1.objs.size := z; omega
  have kp : ∀ b o, s.heap.get? b = some o → (h1.push { cls := .type "list_iterator", data := .fields #[.ref a, .int 0 0] }).get? b = some o := fun b o e => Heap.get?_push_of_some _ (hk1 _ _ (Heap.get?_push_of_some _ e))
  have hr1 := r1.length
  have hlen : its.toArray.size = ts.length := by rw [List.size_toArray, ← hr1, List.length_map]
  have hti : ∀ j, j < its.toArray.size → its.toArray[j]? = some (.ref (ts.getD j 0)) := by
    intro j hj
    rw [hlen] at hj
    have hj2 : j < its.length := by rw [← hr1, List.length_map]; exact hj
    rw [List.getElem?_toArray, List.getElem?_eq_getElem hj2]
    have g := Vals.getR r1 j (.ref (ts.getD j 0)) its[j] (by rw [List.getElem?_map, List.getElem?_eq_getElem hj]; simp [List.getD, hj]) (List.getElem?_eq_getElem hj2)
    exact congrArg some g
  have htu : ∀ j, j < its.toArray.size → ∃ o, s.heap.get? (ts.getD j 0) = some o := by
    intro j hj
    rw [hlen] at hj
    have hj2 : j < vs.length := by rw [hvl]; exact hj
    obtain ⟨key, _, o, ho, _⟩ := hvs j vs[j] (ts.getD j 0) (List.getElem?_eq_getElem hj2) (by simp [List.getD, hj])
    exact ⟨o, ho⟩
  refine wpAny_pure ⟨plainId_quiet zaL _, ?_⟩
  refine zel (knd := zaz X.prog X.w) (A := X.A.in1) (I := h1.objs.size) (ax := a) (d := s.heap.objs.size) hA its.toArray vs (hI _ _ (hk1 _ _ e1)) (Nat.ne_of_lt hN) (Ne.symm (hne _ _ hoa)) (by rw [hlen, hl]; exact hsz) (by rw [hvl, hlen]) (fun j => ts.getD j 0) hti
    (fun j hj => by obtain ⟨o, ho⟩ := htu j hj; exact ⟨hne _ _ ho, hI _ _ (hk1 _ _ (Heap.get?_push_of_some _ ho))⟩) _ 0 _ _ [] rfl (Nat.zero_le _) ⟨⟨_, Heap.get?_push_size _ rfl, rfl, rfl⟩, e2.push _⟩ ?_ (Nat.le_refl _) ?_ ?_
  · exact (hnew.at fun o e => hk1 _ _ e).push _
  · intro j kv hj
    have hj2 : j < ts.length := by rw [← hvl]; exact (List.getElem?_eq_some_iff.mp hj).1
    obtain ⟨key, k1, k2⟩ := hvs j kv (ts.getD j 0) hj (by simp [List.getD, hj2])
    exact ⟨key, k1, k2.at fun o e => kp _ _ e⟩
  · rintro s' hd hk ⟨h', tk, rfl⟩
    have hkeys : vs.map (·.1) = kvs.map (·.1) := (KV.keys hKV).symm
    rw [List.drop_zero, merged_nil_of_nodup vs (by rw [hkeys]; exact hn)] at hd
    refine ⟨rfl, .ref s.heap.objs.size, _, I.laid (a := s.heap.objs.size) (o := .dK kvs) (t' := tk) (h' := h') (fun b o e => hk b o (hI _ _ (hk1 _ _ (Heap.get?_push_of_some _ e))) (hne _ _ e) (kp _ _ e)) (Nat.le_refl _) ⟨hsz, beq_eq_false_iff_ne.mpr (Ne.symm (Nat.ne_of_lt I.big)), vs, hKV, hd⟩, rfl, q _ (I.hok.fresh (Nat.le_refl _))⟩
end
end L2
end
section
-- text: ExtI
set_option Elab.async false
set_option linter.all false
set_option maxRecDepth 100000
set_option maxHeartbeats 4000000
namespace L2
open PySem PySem.Spec PyProof.Rows
section
variable {X : Cx}
end
end L2
end
section
-- text: ExtJ
set_option Elab.async false
set_option linter.all false
set_option maxRecDepth 100000
set_option maxHeartbeats 4000000
namespace L2
open PySem PySem.Spec PyProof.Rows
section
variable {X : Cx} {pos : Pos}
noncomputable def zgb (i j k : Nat) (ta : TA) : TS := fun D σ H => ta σ H fun vs H1 => ∃ u v w, vs = [u, v, w] ∧ D.nx (((σ.set i (some u)).set j (some v)).set k (some w)) H1
theorem yfH {i j k : Nat} {x y z : Str} {a b c : Expr} {ta : TA} {px py pz pt : Pos} {kt k2 pt2} (hc : X.calm = true) (hN : X.N.Nodup) (hi : X.N[i]? = some x) (hj : X.N[j]? = some y) (hk : X.N[k]? = some z) (hij : i ≠ j ∧ i ≠ k ∧ j ≠ k)
    (hx : X.env.scope.names.lookup x = some .local) (hy : X.env.scope.names.lookup y = some .local) (hz : X.env.scope.names.lookup z = some .local) (ha : PA X [a, b, c] ta)
    (hw : swappedStores [.Tuple [.Name x px, .Name y py, .Name z pz] kt pt] (.Tuple [a, b, c] k2 pt2) X.env = pure (some [x, y, z]))
    (hs : swapsWithSole [.Tuple [.Name x px, .Name y py, .Name z pz] kt pt] (.Tuple [a, b, c] k2 pt2) pos.line X.env = pure false := by rfl) :
    PS X (.Assign [.Tuple [.Name x px, .Name y py, .Name z pz] kt pt] (.Tuple [a, b, c] k2 pt2) pos) (zgb i j k ta) := by
  intro pins s σ H D I h
  rw [exec_Assign_arm]
  refine wpAny_bind (wpAny_standAt ?_)
  rw [hs]
  refine wpAny_bind (wpAny_pure ?_)
  rw [if_neg (by decide)]
  refine wpAny_bind (Tuple_ (thn (ha _ pins s σ H _ I h) fun us s1 ⟨vs, H1, I1, r1, q1⟩ => ?_))
  obtain ⟨v1, v2, v3, e1, q1⟩ := q1
  subst e1
  obtain ⟨u1, u2, u3, rfl, r1', r2', r3'⟩ : ∃ u1 u2 u3, us = [u1, u2, u3] ∧ RelV v1 u1 ∧ RelV v2 u2 ∧ RelV v3 u3 := by
    cases r1 with
    | cons p q =>
      cases q with
      | cons p' q' =>
        cases q' with
        | cons p'' q'' =>
          cases q''
          exact ⟨_, _, _, rfl, p, p', p''⟩
  refine wpAny_newObj_type ?_ (by show 3 ≤ sizeLine; decide)
  have I2 : Inv X pins σ H1 { s1 with heap := s1.heap.push { cls := .type "tuple", data := .seq [u1, u2, u3].toArray } } := I1.kept (t' := s1.toks) fun b o e => Heap.get?_push_of_some _ e
  rw [hw]
  refine wpAny_bind (wpAny_pure ?_)
  show wpAny (model X.prog X.w) X.A (do rule "assign.swapped-stores"; let items ← unpackItems (.ref s1.heap.objs.size) 3 none; assignInOrder [fun v => bindName X.env z v, fun v => bindName X.env y v, fun v => bindName X.env x v] items.reverse; pure Flow.next) _ _ _
  refine wpAny_bind (wpAny_rule (wpAny_bind (unpackItems_tuple (items := #[u1, u2, u3]) (I.ok.hd hc) (IsTup.new s1.heap _) fun h' hx' => ?_)))
  have I3 := I2.kept (h' := h') (t' := s1.toks) fun b o e => hx' b o (Nat.ne_of_lt (Heap.lt_size e)) e
  show wpAny _ _ (assignInOrder [fun v => bindName X.env z v, fun v => bindName X.env y v, fun v => bindName X.env x v] [u3, u2, u1] >>= fun _ => pure Flow.next) _ _ _
  refine wpAny_bind (assignInOrder_cons (wpAny_bindName (zaU I3 hN hk (.inl hz) r3' (fun s2 I4 => ?_) (.inr hz))))
  refine assignInOrder_cons (wpAny_bindName (zaU I4 hN hj (.inl hy) r2' (fun s2 I5 => ?_) (.inr hy)))
  refine assignInOrder_cons (wpAny_bindName (zaU I5 hN hi (.inl hx) r1' (fun s3 I6 => assignInOrder_nil (wpAny_pure ?_)) (.inr hx)))
  have e : ((σ.set k (some v3)).set j (some v2)).set i (some v1) = ((σ.set i (some v1)).set j (some v2)).set k (some v3) := by
    rw [List.set_comm (some v3) (some v2) (Ne.symm hij.2.2), List.set_comm (some v3) (some v1) (Ne.symm hij.2.1), List.set_comm (some v2) (some v1) (Ne.symm hij.1)]
  rw [e] at I6
  exact ⟨_, H1, I6, q1⟩
section
variable {K : PySem.W.Frag}
theorem zbH (h : X.K = K) : IxR X (rIxT K) := h ▸ zav
theorem ybA (h : X.K = K) : OpR X (compareOp .In) (rIn K false) := h ▸ yen
end
end
end L2
end
section
-- text: ExtK
set_option Elab.async false
set_option linter.all false
set_option maxRecDepth 100000
set_option maxHeartbeats 4000000
namespace L2
open PySem PySem.Spec PyProof.Rows
open MeetsSeq MeetsSeq2 MeetsSeq3
section
variable {X : Cx}
theorem ydx (l b : Addr) (items2 : Array Value) (n n2 : Nat) (dd dd2 : Option Addr) (sl sl2 : Array (Option Value)) :
    Meets (Builtin.«tuple.__add__» ⟨[.ref l, .ref b], []⟩) (fun _ R s => s.heap.get? l = some { cls := .type "tuple", dict := dd, data := .seq #[] n, slots := sl } ∧ s.heap.get? b = some { cls := .type "tuple", dict := dd2, data := .seq items2 n2, slots := sl2 } ∧ R (.ok (.ret (.ref b))) s) :=
  .of_wp fun prog w A R s h => by
    obtain ⟨hp, g, d, tk, os⟩ := s; obtain ⟨hl, hb, h⟩ := h
    have hsub : isSubtype (.type "tuple") (.type "tuple") = pure true := by rw [isSubtype_type]; kernel_rfl
    wp_walk
    exact ⟨_, rfl, h⟩
noncomputable def zf4 (K : PySem.W.Frag) : R2 := fun x y H Q => ∃ (a b : Addr) (xs ys : List V), x = .ref a ∧ y = .ref b ∧ SqT K H a xs ∧ SqT K H b ys ∧ xs.length + ys.length ≤ sizeLine ∧
  (xs = [] → Q (.ref b) H) ∧ (xs ≠ [] → ys = [] → Q (.ref a) H) ∧ (xs ≠ [] → ys ≠ [] → ∀ p, H p = none → Q (.ref p) (upd H p (.tup (xs ++ ys))))
theorem zd7 : OpR X (binaryOp .Add) (zf4 X.K) := by
  intro pins s σ H x y v u Q I rx ry h
  obtain ⟨a, b, xs, ys, rfl, rfl, ha, hb, hz, q0, q1, q2⟩ := h
  by_cases hx : xs = []
  · subst hx
    cases rx
    cases ry
    obtain ⟨its, r1, ⟨⟨cls, dd, data, sl⟩, ho, hc, n, hd⟩, _⟩ := I.tuple ha
    obtain ⟨its2, r2, ⟨⟨cls2, dd2, data2, sl2⟩, ho2, hc2, n2, hd2⟩, _⟩ := I.tuple hb
    simp only at hc hd hc2 hd2
    subst hc hd hc2 hd2
    cases r1
    exact concat_meets ⟨_, ho, rfl⟩ ⟨_, ho2, rfl⟩ noFill_tuple_add seq_tuple_add PySem.F.slot_tuple_add PySem.F.entry_tuple_add (PySem.F.args_tuple_add_2 _ _) (ydx a b its2.toArray n n2 dd dd2 sl sl2) ⟨ho, ho2, ⟨.ref b, H, I, rfl, q0 rfl⟩⟩
  · exact zfw pins s σ H _ _ v u Q I rx ry ⟨a, b, xs, ys, rfl, rfl, ha, hb, hx, hz, q1 hx, q2 hx⟩
end
end L2
end
section
-- text: ExtL
set_option Elab.async false
set_option linter.all false
set_option maxRecDepth 100000
set_option maxHeartbeats 4000000
namespace L2
open PySem PySem.Spec PyProof.Rows
section
variable {prog : Program} {w : World} {A : Around} {E : Value → Shared → Prop} {s : Shared}
end
section
variable {X : Cx}
end
end L2
end
section
-- text: ExtM
set_option Elab.async false
set_option linter.all false
set_option maxRecDepth 100000
set_option maxHeartbeats 4000000
namespace L2
open PySem PySem.Spec PyProof.Rows
theorem zb2 : ∀ {ns : List Int} {us : List Value}, Vals (ns.map V.int) us → IntsAre us ns
  | [], [], _ => .nil
  | [], _ :: _, r => by cases r
  | _ :: _, [], r => by cases r
  | n :: ns, u :: us, .cons r t => by
    obtain ⟨tk, rfl⟩ := r
    exact .cons n tk (zb2 t)
theorem zbs : ∀ {us : List Value} {ns : List Int}, IntsAre us ns → Vals (ns.map V.int) us
  | _, _, .nil => .nil
  | _, _, .cons n t h => .cons ⟨t, rfl⟩ (zbs h)
section
variable {X : Cx}
noncomputable def zfz (K : PySem.W.Frag) : List V → Hp → VK → Prop := fun vs H Q => ∃ (a : Addr) (ns : List Int), vs = [.ref a] ∧ SqL K H a (ns.map V.int) ∧ ns.length < 64 ∧
  ∀ (l : Addr) (ns' : List Int), H l = none → ns'.Perm ns → ns'.Pairwise (· ≤ ·) → Q (.ref l) (upd H l (.lst (ns'.map V.int)))
theorem zb8 : ybn X (.builtin "sorted") (zfz X.K) := by
  intro pins s σ H xs us Q I r h
  obtain ⟨a, ns, rfl, ha, hl, q⟩ := h
  obtain ⟨u, rfl, rx⟩ := ycJ r
  cases rx
  obtain ⟨its, r1, p1, z1⟩ := I.list ha
  have hlen := r1.length
  rw [List.length_map] at hlen z1
  refine sorted_ints p1.isList (zb2 r1) (by omega) fun out ns' a1 a2 a3 => ?_
  obtain ⟨e, he⟩ := sortedAll_at s.heap its out
  have r2 : Vals (ns'.map V.int) out.toList := zbs a1
  refine ⟨.ref (s.heap.objs.size + 1), _, I.laid (a := s.heap.objs.size + 1) (t' := s.toks) (o := .lst (ns'.map V.int)) (fun b ob e => sortedAll_old e) (Nat.le_succ _) ⟨?_, out.toList, e, r2, ?_⟩, rfl, q _ ns' (I.hok.fresh (Nat.le_succ _)) a2 a3⟩
  · rw [List.length_map, a2.length_eq]; exact z1
  · rw [he]
end
end L2
end
section
-- text: ExtN
set_option Elab.async false
set_option linter.all false
set_option maxRecDepth 100000
set_option maxHeartbeats 4000000
namespace L2
open PySem PyProof.Rows
section
variable {X : Cx}
end
end L2
end
section
-- text: ExtO
set_option Elab.async false
set_option linter.all false
set_option maxRecDepth 100000
set_option maxHeartbeats 4000000
namespace L2
open PySem PyProof.Rows
noncomputable def Rise (xs : Array Nat) : Prop := xs.toList.Pairwise (· < ·)
theorem yb4 {xs : Array Nat} (h : Rise xs) {i j : Nat} (hij : i < j) (hj : j < xs.size) : xs[i]'(by omega) < xs[j] := by
  have := List.pairwise_iff_getElem.mp h i j (by simpa using (by omega : i < xs.size)) (by simpa using hj) hij
  simpa using this
theorem ycF {xs : Array Nat} (h : Rise xs) (j : Nat) : ∀ (fuel lo hi : Nat), hi - lo ≤ fuel → lo ≤ hi → hi ≤ xs.size →
    (∀ i (hi' : i < xs.size), i < lo → xs[i] < j) → (∀ i (hi' : i < xs.size), hi ≤ i → j ≤ xs[i]) →
    SetTable.below.go xs j fuel lo hi ≤ xs.size ∧ (∀ i (hi' : i < xs.size), i < SetTable.below.go xs j fuel lo hi → xs[i] < j) ∧ (∀ i (hi' : i < xs.size), SetTable.below.go xs j fuel lo hi ≤ i → j ≤ xs[i])
  | 0, lo, hi, hf, hl, hs, h1, h2 => by
    have e : lo = hi := by omega
    subst e
    exact ⟨hs, h1, h2⟩
  | fuel + 1, lo, hi, hf, hl, hs, h1, h2 => by
    unfold SetTable.below.go
    by_cases c : lo < hi
    · rw [if_pos c]
      have hm : (lo + hi) / 2 < xs.size := by omega
      have eg : xs.getD ((lo + hi) / 2) j = xs[(lo + hi) / 2] := by simp [Array.getD, hm]
      dsimp only
      rw [eg]
      by_cases d : xs[(lo + hi) / 2] < j
      · rw [if_pos d]
        refine ycF h j fuel _ _ (by omega) (by omega) hs (fun i hi' hlt => ?_) h2
        by_cases e : i = (lo + hi) / 2
        · subst e; exact d
        · exact Nat.lt_trans (yb4 h (by omega) hm) d
      · rw [if_neg d]
        refine ycF h j fuel _ _ (by omega) (by omega) (by omega) h1 fun i hi' hge => ?_
        by_cases e : i = (lo + hi) / 2
        · subst e; omega
        · have := yb4 h (show (lo + hi) / 2 < i by omega) hi'
          omega
    · rw [if_neg c]
      have e : lo = hi := by omega
      subst e
      exact ⟨hs, h1, h2⟩
theorem zbR {xs : Array Nat} (h : Rise xs) (j : Nat) : SetTable.below xs j ≤ xs.size ∧ (∀ i (hi' : i < xs.size), i < SetTable.below xs j → xs[i] < j) ∧ (∀ i (hi' : i < xs.size), SetTable.below xs j ≤ i → j ≤ xs[i]) :=
  ycF h j xs.size 0 xs.size (by omega) (by omega) (Nat.le_refl _) (fun i _ hi => absurd hi (Nat.not_lt_zero _)) (fun i hi' hge => absurd hi' (by omega))
theorem zdi {xs : Array Nat} (h : Rise xs) {j : Nat} (hn : xs[SetTable.below xs j]? ≠ some j) : Rise (SetTable.insertAt xs (SetTable.below xs j) j) := by
  obtain ⟨h1, h2, h3⟩ := zbR h j
  generalize SetTable.below xs j = r at *
  unfold Rise
  rw [SetTable.toList_insertAt]
  have hd : ∀ y ∈ xs.toList.drop r, j < y := by
    intro y hy
    obtain ⟨i, hi, e⟩ := List.getElem_of_mem hy
    rw [List.getElem_drop] at e
    have hi2 : r + i < xs.size := by simp at hi; omega
    have e2 : y = xs[r + i] := by rw [← e]; simp
    have h4 := h3 (r + i) hi2 (by omega)
    have h5 : r < xs.size := by omega
    have h6 := h3 r h5 (Nat.le_refl _)
    have h7 : xs[r] ≠ j := fun q => hn (by rw [Array.getElem?_eq_getElem h5, q])
    by_cases c : i = 0
    · subst c; rw [e2]; simp only [Nat.add_zero]; omega
    · have := yb4 h (show r < r + i by omega) hi2
      rw [e2]; omega
  have ht : ∀ y ∈ xs.toList.take r, y < j := by
    intro y hy
    obtain ⟨i, hi, e⟩ := List.getElem_of_mem hy
    rw [List.getElem_take] at e
    have hi2 : i < xs.size := by simp at hi; omega
    have e2 : y = xs[i] := by rw [← e]; simp
    rw [e2]
    exact h2 i hi2 (by simp at hi; omega)
  refine List.pairwise_append.mpr ⟨List.Pairwise.sublist (List.take_sublist _ _) h, List.pairwise_cons.mpr ⟨hd, List.Pairwise.sublist (List.drop_sublist _ _) h⟩, fun a ha b hb => ?_⟩
  rcases List.mem_cons.mp hb with rfl | hb
  · exact ht a ha
  · exact Nat.lt_trans (ht a ha) (hd b hb)
theorem zcK {t : SetTable} {f : Nat → Int} {h : Int} : ∀ (fuel : Nat) (p : SetTable.Probe) {j : Nat} {d : Option Nat}, (∀ e, p.dummy = some e → t.slot e = .dummy) → SetTable.probe.go t f h fuel p = some (.empty j d) → t.slot j = .empty ∧ ∀ e, d = some e → t.slot e = .dummy
  | 0, p, j, d, _, e => by cases e
  | fuel + 1, p, j, d, hp, e => by
    unfold SetTable.probe.go at e
    have adv : ∀ q : SetTable.Probe, (t.advance q).dummy = q.dummy := fun q => by unfold SetTable.advance; split <;> rfl
    cases hs : t.slot p.j with
    | empty => rw [hs] at e; cases e; exact ⟨hs, hp⟩
    | dummy =>
      rw [hs] at e
      refine zcK fuel _ (fun x hx => ?_) e
      rw [adv] at hx; cases hx; exact hs
    | live i =>
      rw [hs] at e
      dsimp only at e
      split at e
      · cases e
      · refine zcK fuel _ (fun x hx => ?_) e
        rw [adv] at hx; exact hp x hx
theorem yef {t : SetTable} {h : Int} {j : Nat} {b : Bool} (e : t.freeSlot h = some (j, b)) : ∀ i, t.slot j ≠ .live i := by
  unfold SetTable.freeSlot at e
  split at e
  · rename_i j' d hm
    obtain ⟨h1, h2⟩ := zcK (t := t) _ _ (fun e he => by cases he) hm
    cases e
    intro i
    cases d with
    | none => show t.slot j' ≠ _; rw [h1]; exact fun q => nomatch q
    | some d => show t.slot d ≠ _; rw [h2 d rfl]; exact fun q => nomatch q
  · cases e
theorem yet {t : SetTable} {j : Nat} (h : ∀ i, t.slot j ≠ .live i) : t.place[SetTable.below t.place j]? ≠ some j := fun e => by
  refine h (SetTable.below t.place j) ?_
  unfold SetTable.slot
  dsimp only
  rw [if_pos (by rw [e]; exact beq_self_eq_true _)]
structure TabG (led : Bool) (t : SetTable) : Prop where
  led : t.led = led
  rise : t.plain = true → Rise t.place
theorem TabG.standIn {led : Bool} {t : SetTable} (h : TabG led t) (n : Nat) : TabG led (t.standIn n) := ⟨h.led, fun e => by cases e⟩
theorem ye3 {led : Bool} {t : SetTable} (h : TabG led t) (es : Array (Int × Value)) (k : Int) (x : Value) : TabG led (layNew t es k x).2.1 := by
  unfold layNew
  split
  · rename_i slot wasDummy he
    dsimp only
    have hp : TabG led (t.put slot).1 := by
      refine ⟨h.led, fun e => ?_⟩
      exact zdi (h.rise e) (yet (yef he))
    unfold SetTable.orStandIn
    split
    · exact hp
    · exact hp.standIn _
  · exact h.standIn _
theorem ydX {led : Bool} {t : SetTable} (h : TabG led t) (es : Array (Int × Value)) (n : Nat) : TabG led (relayAll t es n).2.1 := by
  unfold relayAll
  split
  · rename_i t' order he
    have ht : TabG led t' := by
      unfold SetTable.relaid SetTable.laid at he
      simp only [Option.bind_eq_bind, Option.bind_eq_some_iff] at he
      obtain ⟨owner, _, he⟩ := he
      cases he
      refine ⟨h.led, fun _ => ?_⟩
      unfold Rise
      dsimp only
      rw [List.pairwise_map, List.pairwise_filterMap]
      refine List.Pairwise.imp ?_ List.pairwise_lt_range
      intro a b hab x hx y hy
      cases h1 : owner.getD a none with
      | none => rw [h1] at hx; cases hx
      | some u =>
        cases h2 : owner.getD b none with
        | none => rw [h2] at hy; cases hy
        | some v => rw [h1] at hx; rw [h2] at hy; cases hx; cases hy; exact hab
    dsimp only
    split
    · exact ht
    · exact h.standIn _
  · exact h.standIn _
section
variable {prog : Program} {w : World} {A : Around} {E : Value → Shared → Prop} {s : Shared}
noncomputable abbrev za5 (w : World) : Bool := w.params.followText "set-order"
noncomputable def SetG (w : World) (prog : Program) (h : Heap) (a : Addr) (S : Int → Bool) (n : Nat) : Prop :=
  ∃ o es ep t, h.get? a = some o ∧ o.ExactSet ∧ o.data = .set es ep t ∧ ElemsOf (intKind prog w) es.toList ∧ (∀ k, S k = true ↔ ∃ e ∈ es.toList, (intKind prog w).is k e.2 = true)
    ∧ es.size < scanBound ∧ t.fits es.size = true ∧ es.size = n ∧ TabG (!za5 w) t
theorem ydf {h : Heap} {a : Addr} {o : Obj} {es : Array (Int × Value)} {ep : Nat} {t : SetTable} (ho : h.get? a = some o) (hd : o.data = .set es ep t) (es' : Array (Int × Value)) (t' : SetTable) :
    (h.update a (Obj.putSet es' t')).get? a = some { o with data := .set es' (ep + 1) t' } := by
  have := Heap.get?_update_self (Obj.putSet es' t') ho (by rw [putSet_of es' t' hd]; rfl)
  rw [putSet_of es' t' hd] at this; exact this
theorem ygd {a : Addr} {S : Int → Bool} {n : Nat} {k : Int} {tk : Tok} {Q : Bool → Shared → Prop} (hS : SetG w prog s.heap a S n) (hroom : n + 1 < scanBound)
    (h : ∀ h' b, Heap.SameBut a s.heap h' → SetG w prog h' a (fun k' => S k' || decide (k' = k)) (if S k then n else n + 1) → Q b { s with heap := h' }) :
    wpAny (model prog w) A (setAddHashed a (.int k tk) ((intKind prog w).hash k)) Q E s := by
  obtain ⟨o, es, ep, t, ho, hex, hd, hel, hmem, hb, hf, hn, hG⟩ := hS
  have hkey : (intKind prog w).is k (.int k tk) = true := intKind_is _ _ _ _
  have hsc : (Value.int k tk).scannable = true := rfl
  unfold setAddHashed setAddHashedIn
  refine wpAny_holding (wpAny_bind (wpAny_setState_of ho hd hf ?_))
  dsimp only
  rw [byScan_of hsc hb hel, if_pos rfl]
  unfold setAddByScan
  refine wpAny_bind (wpAny_bind (wpAny_rule (wpAny_bind (wpAny_setScan_of hkey ho hd hf hel ?_))))
  cases hr : List.findIdx? (fun e => (intKind prog w).is k e.2) es.toList with
  | some j =>
    obtain ⟨hj, hpj, _⟩ := List.findIdx?_eq_some_iff_getElem.mp hr
    have hSk : S k = true := (hmem k).mpr ⟨es.toList[j], List.getElem_mem hj, hpj⟩
    refine wpAny_pure (wpAny_pure ?_)
    have h1 := h s.heap false (Heap.SameBut.refl a s.heap) ⟨o, es, ep, t, ho, hex, hd, hel, fun k' => by
      rw [Bool.or_eq_true, decide_eq_true_eq, ← hmem k']
      exact ⟨fun hk => hk.elim id (fun e => e ▸ hSk), .inl⟩, hb, hf, by rw [hSk]; exact hn, hG⟩
    exact h1
  | none =>
    have hSk : S k = false := by
      cases hk : S k with
      | false => rfl
      | true =>
        obtain ⟨e, he, hp⟩ := (hmem k).mp hk
        have := List.findIdx?_eq_none_iff.mp hr e he
        rw [hp] at this; cases this
    have hperm := layNew_perm t es ((intKind prog w).hash k) (.int k tk)
    have hfits := layNew_fits t es ((intKind prog w).hash k) (.int k tk)
    have hG1 := ye3 hG es ((intKind prog w).hash k) (.int k tk)
    dsimp only
    generalize layNew t es ((intKind prog w).hash k) (.int k tk) = L at hperm hfits hG1 ⊢
    obtain ⟨es1, t1, wasDummy, gave⟩ := L
    dsimp only at hperm hfits hG1 ⊢
    rw [Array.toList_push] at hperm
    have hel1 : ElemsOf (intKind prog w) es1.toList := (hel.push hkey hsc).perm hperm
    have hmem1 : ∀ k', (S k' || decide (k' = k)) = true ↔ ∃ e ∈ es1.toList, (intKind prog w).is k' e.2 = true := mem_push_iff hkey hmem hperm
    have hsz1 : es1.size = n + 1 := by rw [← Array.length_toList, hperm.length_eq, List.length_append, Array.length_toList, hn]; rfl
    have hz : es1.size ≤ sizeLine := fits_of_scanBound (by omega)
    have en : (if S k = true then n else n + 1) = n + 1 := by rw [hSk]; rfl
    rw [en] at h
    have fin : ∀ t2 : SetTable, TabG (!za5 w) t2 → t2.fits es1.size = true → wpAny (model prog w) A (storeSet a es1 t2 >>= fun _ => if (!wasDummy && t2.tooFull) = true then
          (match (relayAll t2 es1 (SetTable.grown es1.size)).2.2 with | true => rule "set.scan.the-table-gave-way" | false => pure ()) >>= fun _ => storeSet a (relayAll t2 es1 (SetTable.grown es1.size)).1 (relayAll t2 es1 (SetTable.grown es1.size)).2.1 >>= fun _ => pure (some true)
        else pure (some true)) (fun r s' => ∃ h', s' = { s with heap := h' } ∧ r = some true ∧ Heap.SameBut a s.heap h' ∧ SetG w prog h' a (fun k' => S k' || decide (k' = k)) (n + 1)) E s := by
      intro t2 g2 f2
      refine wpAny_bind (wpAny_storeSet_of ho hd ?_ hz)
      have o1 := ydf ho hd es1 t2
      have b1 := Heap.SameBut.update s.heap a (Obj.putSet es1 t2)
      split
      · have hp := relayAll_perm t2 es1 (SetTable.grown es1.size)
        have hfr := relayAll_fits t2 es1 (SetTable.grown es1.size)
        have g3 := ydX g2 es1 (SetTable.grown es1.size)
        generalize relayAll t2 es1 (SetTable.grown es1.size) = Rl at hp hfr g3 ⊢
        obtain ⟨es2, t3, gave2⟩ := Rl
        dsimp only at hp hfr g3 ⊢
        have hsz : es2.size = es1.size := by rw [← Array.length_toList, hp.length_eq, Array.length_toList]
        have rest : wpAny (model prog w) A (storeSet a es2 t3 >>= fun _ => pure (some true)) (fun r s' => ∃ h', s' = { s with heap := h' } ∧ r = some true ∧ Heap.SameBut a s.heap h' ∧ SetG w prog h' a (fun k' => S k' || decide (k' = k)) (n + 1)) E { s with heap := s.heap.update a (Obj.putSet es1 t2) } := by
          refine wpAny_bind (wpAny_storeSet_of o1 rfl ?_ (by omega))
          exact wpAny_pure ⟨_, rfl, rfl, b1.trans (Heap.SameBut.update _ a _), _, es2, _, t3, ydf o1 rfl es2 t3, hex, rfl, hel1.perm hp, fun k' => (hmem1 k').trans ⟨fun ⟨e, he, q⟩ => ⟨e, hp.mem_iff.mpr he, q⟩, fun ⟨e, he, q⟩ => ⟨e, hp.mem_iff.mp he, q⟩⟩, by omega, hfr, by omega, g3⟩
        cases gave2
        · exact wpAny_bind (wpAny_pure rest)
        · exact wpAny_bind (wpAny_rule rest)
      · exact wpAny_pure ⟨_, rfl, rfl, b1, _, es1, _, t2, o1, hex, rfl, hel1, hmem1, by omega, f2, hsz1, g2⟩
    have hgw : ∀ (b : Bool) {s₁ : Shared} {Q' : Unit → Shared → Prop}, Q' () s₁ → wpAny (model prog w) A (match b with | true => rule "set.scan.the-table-gave-way" | false => pure ()) Q' E s₁ :=
      fun b s₁ Q' hq => by cases b <;> first | exact wpAny_pure hq | exact wpAny_rule hq
    refine wpAny_bind (hgw gave ?_)
    split
    · refine wpAny_bind ?_
      rw [hashByValue_scannable 8 hsc]
      refine wpAny_pure ?_
      refine thn (fin t1 hG1 hfits) fun r s' ⟨h', e1, e2, b, g⟩ => ?_
      subst e1; subst e2
      exact wpAny_pure (h h' true b g)
    · refine wpAny_bind (wpAny_pure ?_)
      refine thn (fin t1 hG1 hfits) fun r s' ⟨h', e1, e2, b, g⟩ => ?_
      subst e1; subst e2
      exact wpAny_pure (h h' true b g)
theorem SetG.at {h h' : Heap} {a : Addr} {S : Int → Bool} {n : Nat} (x : SetG w prog h a S n) (e : ∀ o, h.get? a = some o → h'.get? a = some o) : SetG w prog h' a S n := by
  obtain ⟨o, es, ep, t, ho, r⟩ := x
  exact ⟨o, es, ep, t, e o ho, r⟩
theorem SetG.congr {h : Heap} {a : Addr} {S S' : Int → Bool} {n n' : Nat} (x : SetG w prog h a S n) (e : ∀ k, S k = S' k) (en : n = n') : SetG w prog h a S' n' := by
  have : S = S' := funext e
  subst this; subst en; exact x
section
variable {R : Result → Shared → Prop} {I : Addr} {fp wr : List Addr} {G : Array GenState → Array GenState → Prop} {n : Nat} {P : Nat → Value → Prop} {St : Nat → Shared → Prop}
theorem zf3 (W : WalksS prog w A.in1 I fp wr G n P St) (S : Addr) (hSf : S ∉ fp) (val : Nat → Int) (hval : ∀ i v, P i v → ∃ t, v = .int (val i) t) (hb : n + 1 < scanBound) : ∀ (k i : Nat) (s : Shared), n - i = k → i ≤ n → St i s →
      SetG w prog s.heap S (fun k' => (firstMet val i).any (· == k')) (firstMet val i).length →
      (∀ s', Moved (S :: wr) G s s' → SetG w prog s'.heap S (fun k' => (firstMet val n).any (· == k')) (firstMet val n).length → R (.ok (.ret .none)) s') →
      codeAny (model prog w) A (.builtin "set.update.loop" ⟨[.ref S, .ref I], []⟩) R s := by
  have hSw : S ∉ wr := fun h => hSf (W.sub _ h)
  have hsub : ∀ b ∈ wr, b ∈ S :: wr := fun b hb => List.mem_cons_of_mem _ hb
  intro k
  induction k with
  | zero =>
    intro i s hk hi hst hS hR
    obtain rfl : i = n := by omega
    refine codeAny_builtin F.entry_set_update_loop ?_
    rw [Around.under_plainId F.plain_set_update_loop _]
    show wpAny _ A.in1 (pyNext (.ref I) >>= _) _ _ s
    refine wpAny_bind (W.done s _ _ hst fun s' hm => ?_)
    exact wpAny_pure (hR s' (hm.mono hsub) (hS.at fun o e => hm.heap S o hSw e))
  | succ k ih =>
    intro i s hk hi hst hS hR
    have hlt : i < n := by omega
    refine codeAny_builtin F.entry_set_update_loop ?_
    rw [Around.under_plainId F.plain_set_update_loop _]
    show wpAny _ A.in1 (pyNext (.ref I) >>= _) _ _ s
    refine wpAny_bind (W.item i s _ _ hlt hst fun v s' hP hst' hm => ?_)
    obtain ⟨t, rfl⟩ := hval i v hP
    have hS' := hS.at (h' := s'.heap) fun o e => hm.heap S o hSw e
    show wpAny _ A.in1 (holding [Value.int (val i) t] (setAdd S (.int (val i) t)) >>= _) _ _ s'
    refine wpAny_bind (wpAny_holding ?_)
    unfold setAdd
    refine wpAny_holding (wpAny_bind ((intKind prog w).pyHash (k := val i) (intKind_is _ _ _ _) ?_))
    have hroom : (firstMet val i).length + 1 < scanBound := by have := firstMet_length_le val i; omega
    refine ygd (s := { s' with toks := s'.toks + 1 }) hS' hroom fun h' b hsb hS2 => ?_
    have hSi : SetG w prog h' S (fun k' => (firstMet val (i + 1)).any (· == k')) (firstMet val (i + 1)).length := hS2.congr (fun k' => by rw [firstMet_succ, step_any]) (by rw [firstMet_succ, step_length])
    refine wpAny_pure ⟨plainId_quiet F.plain_set_update_loop _, ih (i + 1) _ (by omega) hlt (W.frame _ s' _ _ hst' (Nat.le_succ _) fun b hb o e => ?_) hSi fun s'' hm'' hS'' => ?_⟩
    · rw [hsb.2 b (fun h : b = S => hSf (by rw [← h]; exact hb))]; exact e
    · refine hR s'' (Moved.trans W.gtrans ((hm.mono hsub).then_heap (Nat.le_succ _) fun b o hb e => ?_) hm'') hS''
      rw [hsb.2 b (fun h : b = S => hb (by rw [h]; exact List.mem_cons_self))]; exact e
end
noncomputable abbrev za9 (w : World) : Obj := { cls := .type "set", dict := none, data := .set #[] 0 (.fresh 0 0 (!za5 w)) }
theorem yfb {h : Heap} {a : Addr} (e : h.get? a = some (za9 w)) : SetG w prog h a (fun _ => false) 0 :=
  ⟨_, #[], 0, _, e, ⟨rfl, rfl, rfl⟩, rfl, fun e he => by simp at he, fun k => by simp, by decide, by rfl, rfl, ⟨rfl, fun _ => List.Pairwise.nil⟩⟩
theorem yek (a : Value) {Q₁ : Value → Shared → Prop} (h : Q₁ (.ref s.heap.objs.size) { s with heap := s.heap.push (za9 w) }) :
    codeAny (model prog w) A (.call (.builtin "set.__new__") ⟨[.type "set", a], []⟩) (wants Q₁ E) s := by
  refine codeAny_of_tree ?_
  show wpAny _ A.in1 (do checkBuiltinCall "set.__new__" ⟨[.type "set", a], []⟩; again (.builtin "set.__new__" ⟨[.type "set", a], []⟩)) _ _ s
  refine wpAny_bind (wpAny_of_eq (F.newCall_set_1 a) (wpAny_pure ⟨plainId_quiet F.plain_set_new _, codeAny_builtin F.entry_set_new ?_⟩))
  rw [Around.under_plainId F.plain_set_new _]
  unfold Builtin.«set.__new__» Builtin.Frozenset.newClass
  have hsub := sub_set_self
  obtain ⟨hp, g, d, tk, os⟩ := s
  dsimp only
  wp_walk
  refine wpAny_askSetting (wpAny_pure ?_)
  dsimp only
  simp only [newObj]
  refine wpAny_bind (wpAny_alloc (wpAny_pure ?_))
  exact wpAny_pure h
set_option maxHeartbeats 8000000 in
theorem ydV {l : Addr} {items : Array Value} {ns : List Int} {Q : Value → Shared → Prop} (hh : A.handled = none) (hl : s.heap.IsList l items) (hi : IntsAre items.toList ns) (hb : items.size + 1 < scanBound)
    (h : ∀ (h' : Heap) (tk : Nat), SetG w prog h' s.heap.objs.size (fun k' => (firstMet (fun i => ns.getD i 0) items.size).any (· == k')) (firstMet (fun i => ns.getD i 0) items.size).length →
      (∀ b o, s.heap.get? b = some o → h'.get? b = some o) → Q (.ref s.heap.objs.size) { s with heap := h', toks := tk }) :
    wpAny (model prog w) A (call (.type "set") [.ref l]) Q E s := by
  obtain ⟨c, tl, hmro⟩ := F.called_set.mro
  have hmade := F.called_set.made
  have hsub := F.called_set.sub
  refine wpAny_call (codeAny_of_tree ?_)
  show wpAny _ _ (callAny (.type "set") _) _ _ _
  refine wpAny_pure ⟨Code.quiet_builtin _ (by decide +kernel), codeAny_builtin F.entry_type_call ?_⟩
  rw [Around.under_plain (weight_type_call_type "set" [.ref l] []) rfl]
  have h1 := F.called_set.notType
  have h2 := F.called_set.canCreate
  have hct := F.typeCall_set_1 (.ref l)
  repeat (any_goals (first | assumption | wp_step))
  refine codeAny_mono (yek (.ref l) (E := E) (Q₁ := fun obj s₁ => obj = .ref s.heap.objs.size ∧ s₁ = { s with heap := s.heap.push (za9 w) }) ⟨rfl, rfl⟩) fun r s₁ hr => ?_
  cases r with
  | error e => exact hr
  | ok fl =>
    cases fl with
    | ret obj =>
      obtain ⟨rfl, rfl⟩ := hr
      have hS : (s.heap.push (za9 w)).get? s.heap.objs.size = some (za9 w) := Heap.get?_push_size _ rfl
      have hT : Shared.TypeIs { s with heap := s.heap.push (za9 w) } (.ref s.heap.objs.size) "set" := ⟨_, hS, rfl⟩
      have hli := F.called_set.init.lookup
      have hbi := F.called_set.init.bind (.ref s.heap.objs.size)
      repeat (any_goals (first | assumption | wp_step))
      refine codeAny_mono (codeAny_call_builtin (R := wants (fun r s₂ => r = .none ∧ ∃ h' tk, s₂ = { s with heap := h', toks := tk } ∧
          SetG w prog h' s.heap.objs.size (fun k' => (firstMet (fun i => ns.getD i 0) items.size).any (· == k')) (firstMet (fun i => ns.getD i 0) items.size).length ∧
          (∀ b o, s.heap.get? b = some o → h'.get? b = some o)) E) F.called_set.init.plain F.entry_set_init (check_set_init_1 hT ?_)) fun r₂ s₂ hr₂ => ?_
      · obtain ⟨ol, hol, hcl, nl, hdl⟩ := hl
        obtain ⟨ocls, odict, odata, oslots⟩ := ol
        simp only at hcl hdl
        subst hcl; subst hdl
        have hol' : (s.heap.push (za9 w)).get? l = some { cls := .type "list", dict := odict, data := .seq items nl, slots := oslots } := Heap.get?_push_of_some _ hol
        have hsls := F.sub_list_set
        have hslf := F.sub_list_frozenset
        have hne : (Value.type "list" == Value.type "dict") = false := by decide
        have hl1 : (s.heap.push (za9 w)).IsList l items := ⟨_, hol', rfl, nl, rfl⟩
        unfold Builtin.«set.__init__» noKeywords Builtin.Frozenset.updateFrom
        generalize hPI : pyIter = PI
        wp_walk
        subst hPI
        refine wpAny_pyIter_list hl1 ?_
        refine wpAny_bind (wpAny_runValue ?_)
        have hlS : l < s.heap.objs.size := Heap.lt_size hol
        have hneI : l ≠ (s.heap.push (za9 w)).objs.size := by rw [Heap.size_push]; exact Nat.ne_of_lt (Nat.lt_succ_of_lt hlS)
        have hSf : s.heap.objs.size ∉ [(s.heap.push (za9 w)).objs.size, l] := by
          rw [Heap.size_push]; simp only [List.mem_cons, List.not_mem_nil, or_false, not_or]
          exact ⟨Nat.ne_of_lt (Nat.lt_succ_self _), Nat.ne_of_gt hlS⟩
        refine zf3 ((Walks.list (by simp [hh]) _ l hneI items).toS) s.heap.objs.size hSf (fun i => ns.getD i 0) (fun i v hv => IntsAre.int_at hi i v (by rw [Array.getElem?_toList]; exact hv)) hb (items.size - 0) 0 _ (by omega) (Nat.zero_le _)
          ⟨⟨_, Heap.get?_push_size _ rfl, rfl, rfl⟩, (hl1.push _)⟩ ((yfb (Heap.get?_push_of_some _ hS)).congr (fun _ => rfl) rfl) fun s' hm hS' => ?_
        obtain ⟨h', g', d', tk', os'⟩ := s'
        obtain rfl : g' = s.gens := hm.gens
        obtain rfl : d' = s.drawn := hm.drawn
        obtain rfl : os' = s.os := hm.os
        show wpAny _ _ _ _ _ _
        refine wpAny_pure ?_
        show wpAny _ _ (ret Value.none) _ _ _
        refine wpAny_pure ⟨rfl, h', tk', rfl, hS', fun b o e => ?_⟩
        have hb := Heap.lt_size e
        refine hm.heap b o ?_ (Heap.get?_push_of_some _ (Heap.get?_push_of_some _ e))
        simp only [List.mem_cons, List.not_mem_nil, or_false, not_or]
        rw [Heap.size_push]
        exact ⟨Nat.ne_of_lt hb, Nat.ne_of_lt (Nat.lt_succ_of_lt hb)⟩
      · cases r₂ with
        | error e => exact hr₂
        | ok fl₂ =>
          cases fl₂ with
          | ret r =>
            obtain ⟨rfl, h', tk, rfl, hS', hk'⟩ := hr₂
            repeat (any_goals (first | assumption | wp_step))
            exact h _ _ hS' hk'
          | _ => exact hr₂.elim
    | _ => exact hr.elim
end
end L2
end
section
-- text: ExtP
set_option Elab.async false
set_option linter.all false
set_option maxRecDepth 100000
set_option maxHeartbeats 4000000
namespace L2
open PySem PyProof.Rows
theorem za0 : Manifest.owners.lookup (String.ofList ['r', 'o', 't', 'a', 'r', 'e', 't', 'i', '_', 't', 'e', 's'].reverse) = some Manifest.sig_set_iterator := by kernel_rfl
theorem zap : Slot "set_iterator" "__next__" "set_iterator.__next__" :=
  .of (owner := "set_iterator") (n := "__next__") (by rw [typeLookup_type, builtinLookup_eq_fast]; kernel_rfl) (by decide +kernel) (by decide +kernel) (by decide +kernel)
    (by first | exact .inl (by decide +kernel) | exact .inr (by decide +kernel)) (by rw [isSubtype_type]; kernel_rfl)
theorem yaU : entryFor table "set_iterator.__next__" = some Builtin.«set_iterator.__next__» := entryFor_of_tree (by kernel_rfl)
theorem zaN (a : Value) : argsOk "set_iterator.__next__" ⟨[a], []⟩ := by
  unfold argsOk; rw [signature?_of (id := "set_iterator.__next__") (n := ['_', '_', 't', 'x', 'e', 'n', '_', '_']) (o := ['r', 'o', 't', 'a', 'r', 'e', 't', 'i', '_', 't', 'e', 's']) (by kernel_rfl) za0]; kernel_rfl
theorem yco : entryFor table "set.__iter__" = some Builtin.«frozenset.__iter__» :=
  entryFor_alias (id' := "frozenset.__iter__") (by kernel_rfl) (by first | rfl | decide +kernel | (unfold String.splitOn; simp +decide [String.splitOnAux])) (by decide +kernel) (by kernel_rfl)
noncomputable def IsSI (h : Heap) (I S : Addr) (first : Value) (i n ep : Nat) : Prop := ∃ o, h.get? I = some o ∧ o.cls = .type "set_iterator" ∧ o.data = .fields #[first, rawInt i, .ref S, rawInt n, rawInt ep]
theorem IsSI.at {h h' : Heap} {I S : Addr} {first : Value} {i n ep : Nat} (x : IsSI h I S first i n ep) (e : ∀ o, h.get? I = some o → h'.get? I = some o) : IsSI h' I S first i n ep := let ⟨o, ho, r⟩ := x; ⟨o, e _ ho, r⟩
noncomputable def zb0 (h : Heap) (S : Addr) (es : Array (Int × Value)) (ep : Nat) (t : SetTable) : Prop := ∃ o, h.get? S = some o ∧ o.data = .set es ep t ∧ t.fits es.size = true
theorem zb0.at {h h' : Heap} {S : Addr} {es : Array (Int × Value)} {ep : Nat} {t : SetTable} (x : zb0 h S es ep t) (e : ∀ o, h.get? S = some o → h'.get? S = some o) : zb0 h' S es ep t := let ⟨o, ho, r⟩ := x; ⟨o, e _ ho, r⟩
section
variable {prog : Program} {w : World} {A : Around} {E : Value → Shared → Prop} {s : Shared}
theorem IsSI.typeIs {I S : Addr} {first : Value} {i n ep : Nat} (x : IsSI s.heap I S first i n ep) : s.TypeIs (.ref I) "set_iterator" := let ⟨o, ho, hc, _⟩ := x; ⟨o, ho, hc⟩
noncomputable def ye8 (prog : Program) (w : World) (s : Shared) (S : Addr) (slot i ep : Nat) (r : Option (Value × Nat)) : Prop := ∀ (A : Around) (E : Value → Shared → Prop) (Q : Option (Value × Nat) → Shared → Prop), Q r s → wpAny (model prog w) A (setNext S slot i ep) Q E s
theorem yeK {I S : Addr} {slot i ep nx : Nat} {es : Array (Int × Value)} {t : SetTable} {x : Value} {Q : Option Value → Shared → Prop} (hit : IsSI s.heap I S (rawInt slot) i es.size ep) (hs : zb0 s.heap S es ep t) (hT : ye8 prog w s S slot i ep (some (x, nx)))
    (hQ : ∀ h', IsSI h' I S (rawInt nx) (i + 1) es.size ep → Heap.SameBut I s.heap h' → Q (some x) { s with heap := h' }) : wpAny (model prog w) A (pyNext (.ref I)) Q E s := by
  obtain ⟨o, ho, hc, hd⟩ := id hit
  obtain ⟨os, hos, hds, hf⟩ := id hs
  unfold pyNext
  refine wpAny_bind (wpAny_attempt (wpAny_callSpecial?_slot (name := Str.ofString "__next__") hit.typeIs zap
    (wpAny_call_entry zap hit.typeIs yaU ?_ (zaN _))))
  unfold Builtin.«set_iterator.__next__»
  refine wpAny_bind (wpAny_of_eq (a := (Value.ref I, [])) rfl ?_)
  try dsimp only
  refine wpAny_bind (wpAny_fieldsOf ho hd ?_)
  simp only [rawInt]
  refine wpAny_bind (wpAny_setEntries_of hos hds hf ?_)
  refine wpAny_ite_split (fun h => absurd h (by simp)) (fun _ => ?_)
  refine wpAny_bind (hT _ _ _ ?_)
  dsimp only
  refine wpAny_bind (wpAny_setField ho hd (by simp) ?_)
  have h1 := Heap.get?_update_self (Obj.mapFields (fun vs => vs.setIfInBounds 0 (Value.int nx 0))) ho (Obj.isFreed_of_fields (Obj.data_mapFields hd _))
  refine wpAny_bind (wpAny_setField h1 (Obj.data_mapFields hd _) (by simp) ?_)
  refine wpAny_pure ⟨x, rfl, wpAny_pure (hQ _ ?_ ((Heap.SameBut.update ..).trans (Heap.SameBut.update ..)))⟩
  exact ⟨_, Heap.get?_update_self _ h1 (Obj.isFreed_of_fields (Obj.data_mapFields (Obj.data_mapFields hd _) _)), (Obj.cls_mapFields ..).trans ((Obj.cls_mapFields ..).trans hc), by rw [Obj.data_mapFields (Obj.data_mapFields hd _)]; simp [rawInt]⟩
theorem yeu {I : Addr} {Q : Option Value → Shared → Prop} (hh : A.handled = none) {s1 : Shared} (hQ : ∀ h' tk, (∀ b o, s1.heap.get? b = some o → h'.get? b = some o) → Q none { s1 with heap := h', toks := tk }) :
    wpAny (model prog w) A.in1 (newExc (.type "StopIteration") [] >>= fun e => raiseNew e) (fun fin s' => ∃ v, fin = Fin.done (Flow.ret v) ∧ wpAny (model prog w) A (pure (some v)) Q E s')
      (fun e s' => wpAny (model prog w) A (do if (← isInstance e (.type "StopIteration")) = true then pure none else throw e) Q E s') s1 := by
  refine wpAny_bind ?_
  simp only [newExc, newTuple]
  refine wpAny_bind (wpAny_newObj_type ?_ (by size_fits))
  refine wpAny_bind (m := firstArgMember _ _) (wpAny_of_eq (a := Value.none) (by first | rfl | (simp only [firstArgMember]; rfl)) ?_)
  refine wpAny_newObj_type ?_ (by size_fits)
  simp only [raiseNew]
  refine wpAny_bind (wpAny_handled ?_)
  first | rw [show A.in1.handled = none from hh] | rw [hh]
  refine wpAny_bind (wpAny_pure (wpAny_throw ?_))
  refine wpAny_bind (wpAny_isInstance (T := "StopIteration") (b := true) ⟨_, Heap.get?_push_size _ rfl, rfl⟩ isSubtype_stop ?_)
  exact wpAny_pure (hQ _ _ fun b o' e => Heap.get?_push_of_some _ (Heap.get?_push_of_some _ e))
theorem yfl {I S : Addr} {slot i ep : Nat} {es : Array (Int × Value)} {t : SetTable} {Q : Option Value → Shared → Prop} (hh : A.handled = none) (hit : IsSI s.heap I S (rawInt slot) i es.size ep) (hs : zb0 s.heap S es ep t) (hT : ye8 prog w s S slot i ep none)
    (hQ : ∀ h' tk, Heap.ExtBut I s.heap h' → Q none { s with heap := h', toks := tk }) : wpAny (model prog w) A (pyNext (.ref I)) Q E s := by
  obtain ⟨o, ho, hc, hd⟩ := id hit
  obtain ⟨os, hos, hds, hf⟩ := id hs
  unfold pyNext
  refine wpAny_bind (wpAny_attempt (wpAny_callSpecial?_slot (name := Str.ofString "__next__") hit.typeIs zap
    (wpAny_call_entry zap hit.typeIs yaU ?_ (zaN _))))
  unfold Builtin.«set_iterator.__next__»
  refine wpAny_bind (wpAny_of_eq (a := (Value.ref I, [])) rfl ?_)
  try dsimp only
  refine wpAny_bind (wpAny_fieldsOf ho hd ?_)
  simp only [rawInt]
  refine wpAny_bind (wpAny_setEntries_of hos hds hf ?_)
  refine wpAny_ite_split (fun h => absurd h (by simp)) (fun _ => ?_)
  refine wpAny_bind (hT _ _ _ ?_)
  dsimp only
  refine wpAny_bind (wpAny_setField ho hd (by simp) ?_)
  refine yeu (I := I) hh fun h' tk k => hQ h' tk fun b o' hb e => k b o' ((Heap.get?_update_other _ _ (Ne.symm hb)).trans e)
theorem yfu {I S T : Addr} {i ep pl : Nat} {es : Array (Int × Value)} {t : SetTable} {places : Array Value} {kx : Int × Value} {tk : Tok} {Q : Option Value → Shared → Prop} (hit : IsSI s.heap I S (.ref T) i es.size ep) (hs : zb0 s.heap S es ep t) (ht : s.heap.IsTuple T places)
    (hp : places[i]? = some (.int pl tk)) (hx : es[pl]? = some kx)
    (hQ : ∀ h', IsSI h' I S (.ref T) (i + 1) es.size ep → Heap.SameBut I s.heap h' → Q (some kx.2) { s with heap := h' }) : wpAny (model prog w) A (pyNext (.ref I)) Q E s := by
  obtain ⟨o, ho, hc, hd⟩ := id hit
  obtain ⟨os, hos, hds, hf⟩ := id hs
  obtain ⟨ot, hot, hct, nt, hdt⟩ := id ht
  unfold pyNext
  refine wpAny_bind (wpAny_attempt (wpAny_callSpecial?_slot (name := Str.ofString "__next__") hit.typeIs zap
    (wpAny_call_entry zap hit.typeIs yaU ?_ (zaN _))))
  unfold Builtin.«set_iterator.__next__»
  refine wpAny_bind (wpAny_of_eq (a := (Value.ref I, [])) rfl ?_)
  try dsimp only
  refine wpAny_bind (wpAny_fieldsOf ho hd ?_)
  simp only [rawInt]
  refine wpAny_bind (wpAny_setEntries_of hos hds hf ?_)
  refine wpAny_ite_split (fun h => absurd h (by simp)) (fun _ => ?_)
  unfold seqItems?
  refine wpAny_bind (wpAny_bind (wpAny_load hot ?_))
  rw [hdt]
  refine wpAny_pure ?_
  dsimp only
  rw [Int.toNat_natCast, hp]
  dsimp only
  unfold setNextDrawn
  refine wpAny_bind (wpAny_bind (wpAny_setState_of hos hds hf ?_))
  dsimp only
  refine wpAny_ite_split (fun h => absurd h (by simp)) (fun _ => ?_)
  rw [Int.toNat_natCast, hx]
  obtain ⟨k0, x⟩ := kx
  refine wpAny_pure ?_
  refine wpAny_bind (wpAny_setField ho hd (by simp) ?_)
  refine wpAny_pure ⟨x, rfl, wpAny_pure (hQ _ ?_ (Heap.SameBut.update ..))⟩
  exact ⟨_, Heap.get?_update_self _ ho (Obj.isFreed_of_fields (Obj.data_mapFields hd _)), (Obj.cls_mapFields ..).trans hc, by rw [Obj.data_mapFields hd]; simp [rawInt]⟩
theorem yf5 {I S T : Addr} {i ep : Nat} {es : Array (Int × Value)} {t : SetTable} {places : Array Value} {Q : Option Value → Shared → Prop} (hh : A.handled = none) (hit : IsSI s.heap I S (.ref T) i es.size ep) (hs : zb0 s.heap S es ep t) (ht : s.heap.IsTuple T places)
    (hp : places[i]? = none) (hQ : ∀ h' tk, Heap.ExtBut I s.heap h' → Q none { s with heap := h', toks := tk }) : wpAny (model prog w) A (pyNext (.ref I)) Q E s := by
  obtain ⟨o, ho, hc, hd⟩ := id hit
  obtain ⟨os, hos, hds, hf⟩ := id hs
  obtain ⟨ot, hot, hct, nt, hdt⟩ := id ht
  unfold pyNext
  refine wpAny_bind (wpAny_attempt (wpAny_callSpecial?_slot (name := Str.ofString "__next__") hit.typeIs zap
    (wpAny_call_entry zap hit.typeIs yaU ?_ (zaN _))))
  unfold Builtin.«set_iterator.__next__»
  refine wpAny_bind (wpAny_of_eq (a := (Value.ref I, [])) rfl ?_)
  try dsimp only
  refine wpAny_bind (wpAny_fieldsOf ho hd ?_)
  simp only [rawInt]
  refine wpAny_bind (wpAny_setEntries_of hos hds hf ?_)
  refine wpAny_ite_split (fun h => absurd h (by simp)) (fun _ => ?_)
  unfold seqItems?
  refine wpAny_bind (wpAny_bind (wpAny_load hot ?_))
  rw [hdt]
  refine wpAny_pure ?_
  dsimp only
  rw [Int.toNat_natCast, hp]
  dsimp only
  refine wpAny_bind (wpAny_setField ho hd (by simp) ?_)
  have h1 := Heap.get?_update_self (Obj.mapFields (fun vs => vs.setIfInBounds 0 (Value.int 0 0))) ho (Obj.isFreed_of_fields (Obj.data_mapFields hd _))
  refine wpAny_bind (wpAny_setField h1 (Obj.data_mapFields hd _) (by simp) ?_)
  refine yeu (I := I) hh fun h' tk k => hQ h' tk fun b o' hb e => k b o' ((Heap.get?_update_other _ _ (Ne.symm hb)).trans ((Heap.get?_update_other _ _ (Ne.symm hb)).trans e))
theorem ycw {S : Addr} {es : Array (Int × Value)} {ep : Nat} {t : SetTable} (hs : zb0 s.heap S es ep t) (hb : za5 w = true) (slot i : Nat) : ye8 prog w s S slot i ep (((pickOrder (w.params.setOrder S ep) es)[i]?).map fun e => (e.2, slot)) := by
  intro A E Q hQ
  obtain ⟨os, hos, hds, hf⟩ := id hs
  unfold setNext setWalk setsByText
  refine wpAny_bind (wpAny_setState_of hos hds hf ?_)
  dsimp only
  refine wpAny_bind (wpAny_bind (wpAny_askSetting (wpAny_pure ?_)))
  refine wpAny_ite_split (fun _ => ?_) (fun h => absurd hb h)
  refine wpAny_ite_split (fun h => absurd h (by simp)) (fun _ => ?_)
  refine wpAny_bind (wpAny_bind (wpAny_setState_of hos hds hf ?_))
  dsimp only
  refine wpAny_bind (wpAny_bind (wpAny_askSetting (wpAny_pure ?_)))
  refine wpAny_ite_split (fun _ => ?_) (fun h => absurd hb h)
  refine wpAny_bind (wpAny_askSetting ?_)
  exact wpAny_pure (wpAny_pure hQ)
theorem zca {S : Addr} {es : Array (Int × Value)} {ep : Nat} {t : SetTable} (hs : zb0 s.heap S es ep t) (hb : za5 w = false) (hl : t.led = true) (hp : t.plain = true ∨ es.size ≤ 1) (slot i : Nat) :
    ye8 prog w s S slot i ep (match es[SetTable.below t.place slot]?, t.place[SetTable.below t.place slot]? with | some (_, x), some j => some (x, j + 1) | _, _ => none) := by
  intro A E Q hQ
  obtain ⟨os, hos, hds, hf⟩ := id hs
  unfold setNext setsByText
  refine wpAny_bind (wpAny_setState_of hos hds hf ?_)
  dsimp only
  refine wpAny_bind (wpAny_bind (wpAny_askSetting (wpAny_pure ?_)))
  refine wpAny_ite_split (fun h => absurd (show za5 w = true from h) (by rw [hb]; decide)) (fun _ => ?_)
  refine wpAny_ite_split (fun h => ?_) (fun _ => ?_)
  · have h' : (!t.plain && decide (es.size > 1)) = true := h
    simp only [Bool.and_eq_true, Bool.not_eq_true', decide_eq_true_eq] at h'
    rcases hp with hp | hp
    · rw [hp] at h'; exact absurd h'.1 (by decide)
    · omega
  refine wpAny_bind ?_
  show wpAny _ _ (if (!t.led && !es.isEmpty) = true then unsupported "set:maker-not-led" else pure ()) _ _ _
  refine wpAny_ite_split (fun h => absurd h (by rw [hl]; simp)) (fun _ => ?_)
  refine wpAny_pure ?_
  exact wpAny_pure hQ
end
end L2
end
section
-- text: ExtQ
set_option Elab.async false
set_option linter.all false
set_option maxRecDepth 100000
set_option maxHeartbeats 4000000
namespace L2
open PySem PyProof.Rows
section
variable {prog : Program} {w : World} {A : Around} {E : Value → Shared → Prop} {s : Shared}
theorem zbO {α : Type} : ∀ (l : List α) (i : Nat) (h : i < l.length), (l[i] :: l.eraseIdx i).Perm l
  | [], i, h => absurd h (Nat.not_lt_zero _)
  | x :: l, 0, h => List.Perm.refl _
  | x :: l, i + 1, h => by
    show (l[i]'(by simpa using h) :: x :: l.eraseIdx i).Perm (x :: l)
    exact (List.Perm.swap _ _ _).trans (List.Perm.cons _ (zbO l i (by simpa using h)))
theorem zei {α : Type} (f : Nat → Nat) : ∀ (n k : Nat) (l : List α) (out : Array α), l.length = n → (pickOrder.go f n k l out).toList.Perm (out.toList ++ l)
  | 0, k, l, out, h => by
    have : l = [] := List.length_eq_zero_iff.mp h
    subst this
    unfold pickOrder.go
    rw [List.append_nil]
  | n + 1, k, l, out, h => by
    have hi : f k % l.length < l.length := Nat.mod_lt _ (by omega)
    unfold pickOrder.go
    rw [List.getElem?_eq_getElem hi]
    dsimp only
    have ih := zei f n (k + 1) (l.eraseIdx (f k % l.length)) (out.push l[f k % l.length]) (by rw [List.length_eraseIdx_of_lt hi]; omega)
    refine ih.trans ?_
    rw [Array.toList_push, List.append_assoc]
    exact List.Perm.append_left _ (zbO _ _ hi)
theorem ycj {α : Type} (f : Nat → Nat) (xs : Array α) : (pickOrder f xs).toList.Perm xs.toList := by
  have := zei f xs.size 0 xs.toList #[] (by simp)
  simpa [pickOrder] using this
theorem zcM {src : Source} {n : Nat} {Q : Nat → Shared → Prop} {M : Model} (hn : n ≠ 0) (h : ∀ x d', x < n → Q x { s with drawn := d' }) : wpAny M A (choose src n) Q E s := fun _ _ _ => ⟨hn, h _ _ (Nat.mod_lt _ (by omega))⟩
theorem zdf {α : Type} {M : Model} : ∀ (n : Nat) (xs : List α) (s : Shared) (Q : List α → Shared → Prop), xs.length = n → (∀ r d', r.Perm xs → Q r { s with drawn := d' }) → wpAny M A (drawOrder n xs) Q E s
  | 0, xs, s, Q, h, hQ => by
    have : xs = [] := List.length_eq_zero_iff.mp h
    subst this
    unfold drawOrder
    exact wpAny_pure (hQ [] s.drawn .nil)
  | n + 1, xs, s, Q, h, hQ => by
    cases xs with
    | nil => cases h
    | cons y ys =>
      unfold drawOrder
      refine wpAny_bind (zcM (by simp) fun i d' hi => ?_)
      rw [List.getElem?_eq_getElem hi]
      dsimp only
      refine wpAny_bind (zdf n _ _ _ (by rw [List.length_eraseIdx_of_lt hi]; simp at h; simp; omega) fun r d2 hr => ?_)
      exact wpAny_pure (hQ _ d2 ((List.Perm.cons _ hr).trans (zbO _ _ hi)))
noncomputable abbrev GE : Array GenState → Array GenState → Prop := fun a b => b = a
theorem ybV : Slot "set_iterator" "__iter__" "set_iterator.__iter__" :=
  .of (owner := "set_iterator") (n := "__iter__") (by rw [typeLookup_type, builtinLookup_eq_fast]; kernel_rfl) (by decide +kernel) (by decide +kernel) (by decide +kernel)
    (by first | exact .inl (by decide +kernel) | exact .inr (by decide +kernel)) (by rw [isSubtype_type]; kernel_rfl)
theorem zco (a : Value) : argsOk "set_iterator.__iter__" ⟨[a], []⟩ := by
  unfold argsOk; rw [signature?_of (id := "set_iterator.__iter__") (n := ['_', '_', 'r', 'e', 't', 'i', '_', '_']) (o := ['r', 'o', 't', 'a', 'r', 'e', 't', 'i', '_', 't', 'e', 's']) (by kernel_rfl) za0]; kernel_rfl
theorem ycR : entryFor table "set_iterator.__iter__" = some Builtin.«dict_keyiterator.__iter__» :=
  entryFor_alias (id' := "dict_keyiterator.__iter__") (by kernel_rfl) (by first | rfl | decide +kernel | (unfold String.splitOn; simp +decide [String.splitOnAux])) (by decide +kernel) (by kernel_rfl)
theorem zcl {I S : Addr} {first : Value} {i n ep : Nat} {Q : Value → Shared → Prop} (hit : IsSI s.heap I S first i n ep) (h : Q (.ref I) s) : wpAny (model prog w) A (pyIter (.ref I)) Q E s := by
  refine wpAny_pyIter_slot hit.typeIs ybV (wpAny_call_entry ybV hit.typeIs ycR ?_ (zco _))
  show wpAny _ _ (ret (.ref I)) _ _ s
  exact wpAny_pure ⟨_, rfl, "set_iterator", _, hit.typeIs, zap.lookup, h⟩
theorem yeP {I S : Addr} {es : Array (Int × Value)} {ep : Nat} {t : SetTable} (hh : A.handled = none) (hne : S ≠ I) (hb : za5 w = true) :
    WalksS prog w A I [I, S] [I] GE es.size (fun i v => ((pickOrder (w.params.setOrder S ep) es).toList.map (·.2))[i]? = some v) (fun i s => IsSI s.heap I S (rawInt ((0 : Nat) : Int)) i es.size ep ∧ zb0 s.heap S es ep t) where
  sub := fun b hb => by simp at hb; simp [hb]
  grefl := fun _ => rfl
  gtrans := fun _ _ _ h1 h2 => h2.trans h1
  frame := fun i s h' tk st _ hk => ⟨st.1.at fun o e => hk I (by simp) o e, st.2.at fun o e => hk S (by simp) o e⟩
  item := fun i s Q E hi st hQ => by
    have hl : (pickOrder (w.params.setOrder S ep) es).size = es.size := by rw [← Array.length_toList, (ycj _ es).length_eq, Array.length_toList]
    have hx : (pickOrder (w.params.setOrder S ep) es)[i]? = some (pickOrder (w.params.setOrder S ep) es)[i] := Array.getElem?_eq_getElem (by omega)
    have hT := ycw (prog := prog) st.2 hb 0 i
    rw [hx] at hT
    refine yeK st.1 st.2 hT fun h' hit' hs' => ?_
    refine hQ _ _ ?_ ⟨hit', st.2.at fun o e => ?_⟩ ⟨fun b o hb e => ?_, rfl, rfl, rfl, Nat.le_refl _⟩
    · rw [List.getElem?_map, Array.getElem?_toList, hx]; rfl
    · exact hs'.extBut S o hne e
    · exact hs'.extBut b o (fun q => hb (by simp [q])) e
  done := fun s Q E st hQ => by
    have hl : (pickOrder (w.params.setOrder S ep) es).size = es.size := by rw [← Array.length_toList, (ycj _ es).length_eq, Array.length_toList]
    have hx : (pickOrder (w.params.setOrder S ep) es)[es.size]? = none := Array.getElem?_eq_none (by omega)
    have hT := ycw (prog := prog) st.2 hb 0 es.size
    rw [hx] at hT
    exact wpAny_with_toks (Nat.le_refl s.toks) (yfl hh st.1 st.2 hT fun h' tk k htk => hQ _ ⟨fun b o hb e => k b o (fun q => hb (by simp [q])) e, rfl, rfl, rfl, htk⟩)
  self := fun i s Q E st h => zcl st.1 h
noncomputable def zbY (place : Array Nat) : Nat → Nat
  | 0 => 0
  | i + 1 => place.getD i 0 + 1
theorem ybW {place : Array Nat} (h : Rise place) : ∀ i, i ≤ place.size → SetTable.below place (zbY place i) = i
  | 0, _ => by
    obtain ⟨h1, h2, h3⟩ := zbR h 0
    show SetTable.below place 0 = 0
    rcases Nat.eq_zero_or_pos (SetTable.below place 0) with c | c
    · exact c
    · exact absurd (h2 0 (by omega) c) (Nat.not_lt_zero _)
  | i + 1, hi => by
    have e : zbY place (i + 1) = place[i] + 1 := by show place.getD i 0 + 1 = _; simp [Array.getD, show i < place.size by omega]
    obtain ⟨h1, h2, h3⟩ := zbR h (zbY place (i + 1))
    rw [e] at h1 h2 h3 ⊢
    generalize SetTable.below place (place[i] + 1) = r at *
    rcases Nat.lt_trichotomy r (i + 1) with c | c | c
    · have := h3 i (by omega) (by omega); omega
    · exact c
    · have h4 := h2 (i + 1) (by omega) c
      have h5 := yb4 h (show i < i + 1 by omega) (by omega)
      omega
theorem ydR {I S : Addr} {es : Array (Int × Value)} {ep : Nat} {t : SetTable} (hh : A.handled = none) (hne : S ≠ I) (hb : za5 w = false) (hl : t.led = true) (hp : t.plain = true ∨ es.size ≤ 1) (hr : Rise t.place) (hz : t.place.size = es.size) :
    WalksS prog w A I [I, S] [I] GE es.size (fun i v => (es.toList.map (·.2))[i]? = some v) (fun i s => IsSI s.heap I S (rawInt (zbY t.place i : Nat)) i es.size ep ∧ zb0 s.heap S es ep t) where
  sub := fun b hb => by simp at hb; simp [hb]
  grefl := fun _ => rfl
  gtrans := fun _ _ _ h1 h2 => h2.trans h1
  frame := fun i s h' tk st _ hk => ⟨st.1.at fun o e => hk I (by simp) o e, st.2.at fun o e => hk S (by simp) o e⟩
  item := fun i s Q E hi st hQ => by
    have hT := zca (prog := prog) st.2 hb hl hp (zbY t.place i) i
    rw [ybW hr i (by omega), Array.getElem?_eq_getElem hi, Array.getElem?_eq_getElem (show i < t.place.size by omega)] at hT
    refine yeK (nx := zbY t.place (i + 1)) (x := es[i].2) st.1 st.2 ?_ fun h' hit' hs' => ?_
    · have e : zbY t.place (i + 1) = t.place[i] + 1 := by show t.place.getD i 0 + 1 = _; simp [Array.getD, show i < t.place.size by omega]
      rw [e]; exact hT
    refine hQ _ _ ?_ ⟨hit', st.2.at fun o e => ?_⟩ ⟨fun b o hb e => ?_, rfl, rfl, rfl, Nat.le_refl _⟩
    · rw [List.getElem?_map, Array.getElem?_toList, Array.getElem?_eq_getElem hi]; rfl
    · exact hs'.extBut S o hne e
    · exact hs'.extBut b o (fun q => hb (by simp [q])) e
  done := fun s Q E st hQ => by
    have hT := zca (prog := prog) st.2 hb hl hp (zbY t.place es.size) es.size
    rw [ybW hr es.size (by omega), Array.getElem?_eq_none (Nat.le_refl _)] at hT
    exact wpAny_with_toks (Nat.le_refl s.toks) (yfl hh st.1 st.2 hT fun h' tk k htk => hQ _ ⟨fun b o hb e => k b o (fun q => hb (by simp [q])) e, rfl, rfl, rfl, htk⟩)
  self := fun i s Q E st h => zcl st.1 h
theorem zdY {I S T : Addr} {es : Array (Int × Value)} {ep : Nat} {t : SetTable} {ps : List Nat} (hh : A.handled = none) (hne : S ≠ I) (hneT : T ≠ I) (hps : ps.Perm (List.range es.size)) :
    WalksS prog w A I [I, S, T] [I] GE es.size (fun i v => (ps.map fun p => (es.getD p (0, .none)).2)[i]? = some v) (fun i s => IsSI s.heap I S (.ref T) i es.size ep ∧ zb0 s.heap S es ep t ∧ s.heap.IsTuple T (ps.map fun (p : Nat) => rawInt p).toArray) where
  sub := fun b hb => by simp at hb; simp [hb]
  grefl := fun _ => rfl
  gtrans := fun _ _ _ h1 h2 => h2.trans h1
  frame := fun i s h' tk st _ hk => ⟨st.1.at fun o e => hk I (by simp) o e, st.2.1.at fun o e => hk S (by simp) o e, st.2.2.at fun o e => hk T (by simp) o e⟩
  item := fun i s Q E hi st hQ => by
    have hl : ps.length = es.size := by rw [hps.length_eq, List.length_range]
    have hm : ∀ p ∈ ps, p < es.size := fun p hp => List.mem_range.mp (hps.mem_iff.mp hp)
    have hpi : ps[i]'(by omega) < es.size := hm _ (List.getElem_mem _)
    refine yfu (pl := ps[i]'(by omega)) (kx := es[ps[i]'(by omega)]) (tk := 0) st.1 st.2.1 st.2.2 ?_ (Array.getElem?_eq_getElem hpi) fun h' hit' hs' => ?_
    · rw [List.getElem?_toArray, List.getElem?_map, List.getElem?_eq_getElem (show i < ps.length by omega)]; rfl
    refine hQ _ _ ?_ ⟨hit', st.2.1.at fun o e => hs'.extBut S o hne e, st.2.2.at fun o e => hs'.extBut T o hneT e⟩ ⟨fun b o hb e => hs'.extBut b o (fun q => hb (by simp [q])) e, rfl, rfl, rfl, Nat.le_refl _⟩
    rw [List.getElem?_map, List.getElem?_eq_getElem (show i < ps.length by omega)]
    simp [Array.getD, hpi]
  done := fun s Q E st hQ => by
    have hl : ps.length = es.size := by rw [hps.length_eq, List.length_range]
    exact wpAny_with_toks (Nat.le_refl s.toks) (yf5 hh st.1 st.2.1 st.2.2 (by rw [List.getElem?_toArray, List.getElem?_eq_none (by simp; omega)]) fun h' tk k htk => hQ _ ⟨fun b o hb e => k b o (fun q => hb (by simp [q])) e, rfl, rfl, rfl, htk⟩)
  self := fun i s Q E st h => zcl st.1 h
theorem zdZ {es : Array (Int × Value)} {ps : List Nat} (hps : ps.Perm (List.range es.size)) : (ps.map fun p => (es.getD p (0, .none)).2).Perm (es.toList.map (·.2)) := by
  refine (hps.map _).trans ?_
  have e : (List.range es.size).map (fun p => (es.getD p (0, Value.none)).2) = es.toList.map (·.2) := by
    apply List.ext_getElem
    · simp
    · intro i h1 h2
      simp at h1
      simp [Array.getD, h1]
  rw [e]
noncomputable def zfS (prog : Program) (w : World) (S : Addr) (es : Array (Int × Value)) (s0 s : Shared) (I : Addr) : Prop :=
  ∃ (vs : List Value) (fp : List Addr) (St : Nat → Shared → Prop), vs.Perm (es.toList.map (·.2)) ∧ (∀ A : Around, A.handled = none → WalksS prog w A I fp [I] GE es.size (fun i v => vs[i]? = some v) St) ∧ St 0 s ∧ (∀ b ∈ fp, b < s.heap.objs.size) ∧ I ∈ fp ∧ s.TypeIs (.ref I) "set_iterator" ∧
    (∀ b o, s0.heap.get? b = some o → s.heap.get? b = some o) ∧ s0.heap.objs.size ≤ I ∧ s.gens = s0.gens ∧ s.os = s0.os ∧ s0.toks ≤ s.toks ∧ ∀ b ∈ fp, b = S ∨ s0.heap.objs.size ≤ b
theorem zd1 {xs : Array Nat} (h : xs.size ≤ 1) : Rise xs := by
  unfold Rise
  rw [← Array.length_toList] at h
  match xs.toList, h with
  | [], _ => exact .nil
  | [x], _ => exact List.pairwise_singleton _ _
theorem yeT {S : Addr} {o : Obj} {es : Array (Int × Value)} {ep : Nat} {t : SetTable} {Q : Value → Shared → Prop} (ho : s.heap.get? S = some o) (hc : o.cls = .type "set") (hd : o.data = .set es ep t) (hf : t.fits es.size = true) (hb : es.size < scanBound) (hG : TabG (!za5 w) t)
    (hQ : ∀ I s', zfS prog w S es s s' I → Q (.ref I) s') : wpAny (model prog w) A (pyIter (.ref S)) Q E s := by
  have hT : s.TypeIs (.ref S) "set" := ⟨o, ho, hc⟩
  have hSlt := Heap.lt_size ho
  have hz : t.place.size = es.size := by
    have := hf
    unfold SetTable.fits at this
    simp only [Bool.and_eq_true, beq_iff_eq] at this
    exact this.1
  refine wpAny_pyIter_slot hT F.slot_set_iter (wpAny_call_entry F.slot_set_iter hT yco ?_ (F.args_set_iter_1 _))
  unfold Builtin.«frozenset.__iter__» Builtin.Frozenset.slot0 Builtin.Frozenset.sizeOf
  refine wpAny_bind (wpAny_of_eq (a := S) rfl ?_)
  refine wpAny_bind (wpAny_bind (wpAny_setEntries_of ho hd hf (wpAny_pure ?_)))
  unfold setDrawn setsByText
  refine wpAny_bind (wpAny_bind (wpAny_setState_of ho hd hf ?_))
  dsimp only
  refine wpAny_bind (wpAny_bind (wpAny_askSetting (wpAny_pure (wpAny_pure ?_))))
  refine wpAny_ite_split (fun h => ?_) (fun h => ?_)
  · have h' : (!za5 w && (!t.plain && decide (es.size > 1))) = true := h
    refine wpAny_bind (zdf _ _ _ _ List.length_range fun ps d' hps => ?_)
    have hlen : ps.length = es.size := by rw [hps.length_eq, List.length_range]
    refine wpAny_bind (wpAny_newTuple ?_ (by rw [List.length_map, hlen]; exact fits_of_scanBound hb))
    have o1 : (s.heap.push { cls := .type "tuple", data := .seq (ps.map fun (p : Nat) => rawInt p).toArray }).get? S = some o := Heap.get?_push_of_some _ ho
    unfold setEpoch
    refine wpAny_bind (wpAny_bind (wpAny_setState_of o1 hd hf (wpAny_pure ?_)))
    unfold newFields
    refine wpAny_bind (wpAny_newObj_type ?_ (by size_fits))
    refine wpAny_pure ⟨_, rfl, "set_iterator", _, ⟨_, Heap.get?_push_size _ rfl, rfl⟩, zap.lookup, hQ _ _ ?_⟩
    have hI : (s.heap.push { cls := .type "tuple", data := .seq (ps.map fun (p : Nat) => rawInt p).toArray }).objs.size = s.heap.objs.size + 1 := Heap.size_push _ _
    have e2 : ∀ b o', s.heap.get? b = some o' → ((s.heap.push { cls := .type "tuple", data := .seq (ps.map fun (p : Nat) => rawInt p).toArray }).push { cls := .type "set_iterator", data := .fields #[.ref s.heap.objs.size, rawInt 0, .ref S, rawInt es.size, rawInt ep] }).get? b = some o' := fun b o' e => Heap.get?_push_of_some _ (Heap.get?_push_of_some _ e)
    refine ⟨_, [(s.heap.push { cls := .type "tuple", data := .seq (ps.map fun (p : Nat) => rawInt p).toArray }).objs.size, S, s.heap.objs.size], _, zdZ hps, fun A hh => zdY (t := t) (ep := ep) hh ?_ ?_ hps, ⟨⟨_, Heap.get?_push_size _ rfl, rfl, rfl⟩, ⟨o, e2 S o ho, hd, hf⟩, ⟨_, Heap.get?_push_of_some _ (Heap.get?_push_size _ rfl), rfl, 0, rfl⟩⟩, ?_, by simp, ⟨_, Heap.get?_push_size _ rfl, rfl⟩, e2, ?_, rfl, rfl, Nat.le_refl _, ?_⟩
    · rw [hI]; exact Nat.ne_of_lt (Nat.lt_succ_of_lt hSlt)
    · rw [hI]; exact Nat.ne_of_lt (Nat.lt_succ_self _)
    · intro b hb
      simp only [List.mem_cons, List.not_mem_nil, or_false] at hb
      show b < ((s.heap.push _).push _).objs.size
      rw [Heap.size_push, hI]
      rcases hb with rfl | rfl | rfl
      · rw [hI]; exact Nat.lt_succ_self _
      · exact Nat.lt_succ_of_lt (Nat.lt_succ_of_lt hSlt)
      · exact Nat.lt_succ_of_lt (Nat.lt_succ_self _)
    · show s.heap.objs.size ≤ (s.heap.push _).objs.size
      rw [hI]; exact Nat.le_succ _
    · intro b hb
      simp only [List.mem_cons, List.not_mem_nil, or_false] at hb
      rcases hb with rfl | rfl | rfl
      · right; rw [hI]; exact Nat.le_succ _
      · exact .inl rfl
      · exact .inr (Nat.le_refl _)
  · have h' : ¬ (!za5 w && (!t.plain && decide (es.size > 1))) = true := h
    refine wpAny_bind (wpAny_pure ?_)
    unfold setEpoch
    refine wpAny_bind (wpAny_bind (wpAny_setState_of ho hd hf (wpAny_pure ?_)))
    unfold newFields
    refine wpAny_bind (wpAny_newObj_type ?_ (by size_fits))
    refine wpAny_pure ⟨_, rfl, "set_iterator", _, ⟨_, Heap.get?_push_size _ rfl, rfl⟩, zap.lookup, hQ _ _ ?_⟩
    have e2 : ∀ b o', s.heap.get? b = some o' → (s.heap.push { cls := .type "set_iterator", data := .fields #[rawInt 0, rawInt 0, .ref S, rawInt es.size, rawInt ep] }).get? b = some o' := fun b o' e => Heap.get?_push_of_some _ e
    have hin : ∀ b ∈ [s.heap.objs.size, S], b < (s.heap.push { cls := .type "set_iterator", data := .fields #[rawInt 0, rawInt 0, .ref S, rawInt es.size, rawInt ep] }).objs.size := by
      intro b hb
      simp only [List.mem_cons, List.not_mem_nil, or_false] at hb
      rw [Heap.size_push]
      rcases hb with rfl | rfl
      · exact Nat.lt_succ_self _
      · exact Nat.lt_succ_of_lt hSlt
    have hin2 : ∀ b ∈ [s.heap.objs.size, S], b = S ∨ s.heap.objs.size ≤ b := by
      intro b hb
      simp only [List.mem_cons, List.not_mem_nil, or_false] at hb
      rcases hb with rfl | rfl
      · exact .inr (Nat.le_refl _)
      · exact .inl rfl
    by_cases hbt : za5 w = true
    · exact ⟨_, [s.heap.objs.size, S], _, (ycj (w.params.setOrder S ep) es).map _, fun A hh => yeP (t := t) (ep := ep) hh (Nat.ne_of_lt hSlt) hbt, ⟨⟨_, Heap.get?_push_size _ rfl, rfl, rfl⟩, ⟨o, e2 S o ho, hd, hf⟩⟩, hin, by simp, ⟨_, Heap.get?_push_size _ rfl, rfl⟩, e2, Nat.le_refl _, rfl, rfl, Nat.le_refl _, hin2⟩
    · have hbf : za5 w = false := by simpa using hbt
      have hled : t.led = true := by rw [hG.led, hbf]; rfl
      have hp : t.plain = true ∨ es.size ≤ 1 := by
        rw [hbf] at h'
        cases hpl : t.plain
        · rw [hpl] at h'
          simp at h'
          exact .inr h'
        · exact .inl rfl
      have hr : Rise t.place := by
        rcases hp with hp | hp
        · exact hG.rise hp
        · exact zd1 (by omega)
      exact ⟨_, [s.heap.objs.size, S], _, List.Perm.refl _, fun A hh => ydR (t := t) (ep := ep) hh (Nat.ne_of_lt hSlt) hbf hled hp hr hz, ⟨⟨_, Heap.get?_push_size _ rfl, rfl, rfl⟩, ⟨o, e2 S o ho, hd, hf⟩⟩, hin, by simp, ⟨_, Heap.get?_push_size _ rfl, rfl⟩, e2, Nat.le_refl _, rfl, rfl, Nat.le_refl _, hin2⟩
end
end L2
end
section
-- text: ExtR
set_option Elab.async false
set_option linter.all false
set_option maxRecDepth 100000
set_option maxHeartbeats 4000000
namespace L2
open PySem PyProof.Rows
theorem zc0 : typeLookup (.type "set") "__len__" = pure (some (.builtin "set.__len__")) := by rw [typeLookup_type, builtinLookup_eq_fast]; kernel_rfl
section
variable {prog : Program} {w : World} {A : Around} {E : Value → Shared → Prop} {s : Shared}
structure Left (s s' : Shared) : Prop where
  heap : ∀ b o, s.heap.get? b = some o → s'.heap.get? b = some o
  gens : s'.gens = s.gens
  os : s'.os = s.os
  toks : s.toks ≤ s'.toks
  size : s.heap.objs.size ≤ s'.heap.objs.size
theorem yeW {vs : List Value} {n : Nat} {acc : Array Value} (hn : vs.length = n) (h : ItemsOf (fun i v => vs[i]? = some v) acc n) : acc.toList = vs := by
  refine List.ext_getElem? fun i => ?_
  by_cases c : i < n
  · have h1 : acc[i]? = some (acc[i]'(by rw [h.1]; exact c)) := Array.getElem?_eq_getElem _
    rw [Array.getElem?_toList, h1]
    exact (h.2 i _ h1).symm
  · rw [Array.getElem?_toList, Array.getElem?_eq_none (by rw [h.1]; omega), List.getElem?_eq_none (by omega)]
theorem zdp {S : Addr} {o : Obj} {es : Array (Int × Value)} {ep : Nat} {t : SetTable} {Q : List Value → Shared → Prop} (hh : A.handled = none) (ho : s.heap.get? S = some o) (hc : o.cls = .type "set") (hd : o.data = .set es ep t) (hf : t.fits es.size = true) (hb : es.size < scanBound) (hG : TabG (!za5 w) t)
    (hQ : ∀ vs s', vs.Perm (es.toList.map (·.2)) → Left s s' → Q vs s') : wpAny (model prog w) A (collect (.ref S)) Q E s := by
  have hSlt := Heap.lt_size ho
  unfold collect
  refine wpAny_bind (wpAny_runValue (codeAny_builtin F.entry_proto_collect ?_))
  rw [Around.under_plainId F.plain_proto_collect _]
  show wpAny _ A.in1 (newList [] >>= fun l => again (.builtin "list.__iadd__" ⟨[l, .ref S], []⟩)) _ _ s
  refine wpAny_bind (wpAny_newObj_type ?_)
  refine wpAny_pure ⟨plainId_quiet F.plain_list_iadd _, codeAny_builtin F.entry_list_iadd ?_⟩
  rw [Around.under_plainId F.plain_list_iadd _]
  have ho1 : (s.heap.push { cls := .type "list", data := .seq ([] : List Value).toArray }).get? S = some o := Heap.get?_push_of_some _ ho
  have hS1 : (s.heap.push { cls := .type "list", data := .seq ([] : List Value).toArray }).get? s.heap.objs.size = some { cls := .type "list", data := .seq ([] : List Value).toArray } := Heap.get?_push_size _ rfl
  have h1 : Builtin.List.listSameRef (.ref s.heap.objs.size) (.ref S) = false := by simp [Builtin.List.listSameRef]; exact Nat.ne_of_gt hSlt
  show wpAny _ A.in1 (Builtin.List.listExtendWith (.ref s.heap.objs.size) (.ref S) (.ref s.heap.objs.size)) _ _ _
  unfold Builtin.List.listExtendWith
  refine wpAny_bind (wpAny_typeOf (T := "set") ⟨o, ho1, hc⟩ ?_)
  rw [if_neg (by rw [h1]; decide)]
  refine wpAny_bind (yeT ho1 hc hd hf hb hG fun I s2 ⟨vs, fp, St, hp, hW, hst, hfp, hI, hT, hk, hge, hg, hos, htk, hfs⟩ => ?_)
  have ho2 := hk S o ho1
  have hS2 := hk _ _ hS1
  refine wpAny_bind (wpAny_holding ?_)
  unfold Builtin.List.listLengthHint
  refine wpAny_bind (wpAny_specialOf (T := "set") ⟨o, ho2, hc⟩ zc0 ?_)
  (generalize hid : ("set.__len__" : String) = id0; (fail_if_success (clear hid id0)); wp_delta; rw [show splitId id0 = some ("set", "__len__") from by subst hid; decide +kernel]; subst hid)
  refine wpAny_bind (wpAny_isInstance (T := "set") (b := true) ⟨o, ho2, hc⟩ (by rw [isSubtype_type]; kernel_rfl) ?_)
  refine wpAny_ite_split (fun h => absurd h (by decide)) (fun _ => ?_)
  refine wpAny_ite_split (fun _ => ?_) (fun h => (h (by decide +kernel)).elim)
  refine wpAny_bind (wpAny_typeOf (T := "set") ⟨o, ho2, hc⟩ ?_)
  refine wpAny_pure ?_
  refine wpAny_ite_split (fun _ => ?_) (fun h => (h (by decide +kernel)).elim)
  refine wpAny_bind (wpAny_rule ?_)
  refine wpAny_bind ?_
  show wpAny _ A.in1 (updateSeq s.heap.objs.size (·.push .none) >>= fun _ => updateSeq s.heap.objs.size (·.pop)) _ _ _
  refine wpAny_bind (wpAny_updateSeq hS2 rfl ?_)
  have hS3 := Heap.get?_update_self (Obj.mapSeq (·.push Value.none)) hS2 rfl
  refine wpAny_updateSeq hS3 rfl ?_
  have hS4 := Heap.get?_update_self (Obj.mapSeq (·.pop)) hS3 rfl
  have hlt : s.heap.objs.size < I := by
    have := hge
    rw [show (s.heap.push { cls := .type "list", data := .seq ([] : List Value).toArray }).objs.size = s.heap.objs.size + 1 from Heap.size_push _ _] at this
    exact this
  have W := hW A.in1 hh
  have hSf : s.heap.objs.size ∉ fp := fun hm => by
    rcases hfs _ hm with h | h
    · exact absurd h (Nat.ne_of_gt hSlt)
    · rw [show (s.heap.push { cls := .type "list", data := .seq ([] : List Value).toArray }).objs.size = s.heap.objs.size + 1 from Heap.size_push _ _] at h
      exact absurd h (Nat.not_succ_le_self _)
  have oth : ∀ b o', b ≠ s.heap.objs.size → s2.heap.get? b = some o' → ((s2.heap.update s.heap.objs.size (Obj.mapSeq (·.push Value.none))).update s.heap.objs.size (Obj.mapSeq (·.pop))).get? b = some o' :=
    fun b o' hb e => (Heap.get?_update_other _ _ (Ne.symm hb)).trans ((Heap.get?_update_other _ _ (Ne.symm hb)).trans e)
  have hlen : vs.length = es.size := by rw [hp.length_eq, List.length_map, Array.length_toList]
  refine wpAny_pure ⟨plainId_quiet F.plain_extend_loop _, codeAny_extend_loopS W (fits_of_scanBound hb) _ hSf _ es.size 0 _ _ _ rfl (Nat.zero_le _)
    (W.frame 0 s2 _ s2.toks hst (Nat.le_refl _) fun b hb o e => oth b o (fun h => hSf (h ▸ hb)) e) hS4 (ItemsOf.nil _) fun s' acc' c' hm hS' hacc => ?_⟩
  show wpAny _ A (load s.heap.objs.size >>= _) _ _ s'
  refine wpAny_bind (wpAny_load hS' ?_)
  refine wpAny_pure ?_
  rw [yeW hlen hacc]
  refine hQ vs s' hp ⟨fun b o' e => ?_, ?_, ?_, ?_, Nat.le_of_lt (Heap.lt_size hS')⟩
  · have hb := Heap.lt_size e
    refine hm.heap b o' ?_ (oth b o' (Nat.ne_of_lt hb) (hk b o' (Heap.get?_push_of_some _ e)))
    simp only [List.mem_cons, List.not_mem_nil, or_false, not_or]
    exact ⟨Nat.ne_of_lt hb, Nat.ne_of_lt (Nat.lt_trans hb hlt)⟩
  · exact hm.gens.trans hg
  · exact hm.os.trans hos
  · exact Nat.le_trans htk hm.toks
end
end L2
end
section
-- text: ExtS
set_option Elab.async false
set_option linter.all false
set_option maxRecDepth 100000
set_option maxHeartbeats 4000000
namespace L2
open PySem PyProof.Rows
theorem ydb {α : Type} [BEq α] [LawfulBEq α] : ∀ {σ τ : List α}, σ.Nodup → (∀ x ∈ σ, x ∈ τ) → σ.length ≤ τ.length
  | [], _, _, _ => Nat.zero_le _
  | x :: σ, τ, h, hs => by
    have hx : x ∈ τ := hs x List.mem_cons_self
    have h2 := List.nodup_cons.mp h
    have := ydb (σ := σ) (τ := τ.erase x) h2.2 fun y hy => (List.mem_erase_of_ne (fun e => h2.1 (by rw [← e]; exact hy))).mpr (hs y (List.mem_cons_of_mem _ hy))
    rw [List.length_erase_of_mem hx] at this
    have hp : 0 < τ.length := List.length_pos_of_mem hx
    simp only [List.length_cons]
    omega
theorem ycB {α : Type} [BEq α] [LawfulBEq α] : ∀ {σ τ : List α}, σ.Nodup → (∀ x ∈ σ, x ∈ τ) → τ.length ≤ σ.length → σ.Perm τ
  | [], τ, _, _, hl => by
    have : τ = [] := List.length_eq_zero_iff.mp (by simpa using hl)
    rw [this]
  | x :: σ, τ, h, hs, hl => by
    have hx : x ∈ τ := hs x List.mem_cons_self
    have h2 := List.nodup_cons.mp h
    have ih := ycB (σ := σ) (τ := τ.erase x) h2.2 (fun y hy => (List.mem_erase_of_ne (fun e => h2.1 (by rw [← e]; exact hy))).mpr (hs y (List.mem_cons_of_mem _ hy))) (by rw [List.length_erase_of_mem hx]; simp at hl; omega)
    exact (List.Perm.cons x ih).trans (List.perm_cons_erase hx).symm
theorem ya6 (val : Nat → Int) : ∀ i, (firstMet val i).Nodup
  | 0 => List.nodup_nil
  | i + 1 => by
    rw [firstMet_succ]
    unfold step_dedup
    split
    · exact ya6 val i
    · rename_i hn
      refine List.nodup_append.mpr ⟨ya6 val i, by simp, fun a ha b hb => ?_⟩
      rw [List.mem_singleton] at hb
      intro e
      exact hn (List.any_eq_true.mpr ⟨a, ha, by rw [e, hb]; exact beq_self_eq_true _⟩)
theorem ybs (ns : List Int) (k : Int) : k ∈ firstMet (fun i => ns.getD i 0) ns.length ↔ k ∈ ns := by
  have h := firstMet_any (fun i => ns.getD i 0) ns.length k
  have e : (List.range ns.length).map (fun i => ns.getD i 0) = ns := by
    apply List.ext_getElem
    · simp
    · intro i h1 h2
      simp [List.getD, h2]
  rw [e] at h
  have c : ∀ l : List Int, l.any (· == k) = true ↔ k ∈ l := fun l => by
    rw [List.any_eq_true]
    exact ⟨fun ⟨x, hx, q⟩ => by rw [← eq_of_beq q]; exact hx, fun hk => ⟨k, hk, beq_self_eq_true _⟩⟩
  rw [← c, ← c, h]
section
variable {prog : Program} {w : World} {A : Around} {E : Value → Shared → Prop} {s : Shared}
theorem zcx : ∀ {vs : List Value}, (∀ v ∈ vs, ∃ k t, v = .int k t) → ∃ ns, IntsAre vs ns ∧ ∀ k, k ∈ ns ↔ ∃ v ∈ vs, ∃ t, v = .int k t
  | [], _ => ⟨[], .nil, fun k => ⟨fun h => (nomatch h), fun ⟨v, h, _⟩ => (nomatch h)⟩⟩
  | v :: vs, h => by
    obtain ⟨ns, hn, hm⟩ := zcx fun v' hv => h v' (List.mem_cons_of_mem _ hv)
    obtain ⟨k, t, rfl⟩ := h v List.mem_cons_self
    refine ⟨k :: ns, .cons k t hn, fun k' => ⟨fun hk => ?_, fun ⟨v', hv, t', e⟩ => ?_⟩⟩
    · rcases List.mem_cons.mp hk with rfl | hk
      · exact ⟨_, List.mem_cons_self, t, rfl⟩
      · obtain ⟨v', hv, t', e⟩ := (hm k').mp hk
        exact ⟨v', List.mem_cons_of_mem _ hv, t', e⟩
    · rcases List.mem_cons.mp hv with rfl | hv
      · cases e; exact List.mem_cons_self
      · exact List.mem_cons_of_mem _ ((hm k').mpr ⟨v', hv, t', e⟩)
theorem ydZ {S : Addr} {Sm : Int → Bool} {n : Nat} {Q : Value → Shared → Prop} (hh : A.handled = none) (hS : SetG w prog s.heap S Sm n) (h64 : n < 64)
    (hQ : ∀ (h' : Heap) (d' : Drawn) (tk : Nat) (L : Addr) (ns' : List Int) (out : Array Value) (e : Nat), IntsAre out.toList ns' → ns'.length = n → (∀ k, k ∈ ns' ↔ Sm k = true) → ns'.Pairwise (· ≤ ·) → (∀ b o, s.heap.get? b = some o → h'.get? b = some o) → s.heap.objs.size ≤ L →
      h'.get? L = some (seqObj "list" out e) → Q (.ref L) { heap := h', gens := s.gens, drawn := d', toks := tk, os := s.os }) :
    wpAny (model prog w) A (call (.builtin "sorted") [.ref S]) Q E s := by
  obtain ⟨o, es, ep, t, ho, hex, hd, hel, hmem, hb, hf, hn, hG⟩ := hS
  refine Calls.call_function_entry kind_sorted plain_sorted entry_sorted (args_sorted1 _) ?_
  unfold Builtin.«sorted»
  refine wpAny_bind (m := checkCount "sorted" 1 1 _) (wpAny_pure ?_)
  refine wpAny_bind (zdp (by simp [hh]) ho hex.1 hd hf hb hG fun vs s2 hp hL => ?_)
  have hall : ∀ v ∈ vs, ∃ k t, v = .int k t := fun v hv => by
    obtain ⟨e, he, rfl⟩ := List.mem_map.mp (hp.mem_iff.mp hv)
    obtain ⟨⟨k, hk, _⟩, _⟩ := hel e he
    obtain ⟨t, ht⟩ := Value.isInt_shape hk
    exact ⟨k, t, ht⟩
  obtain ⟨ns, hI, hm⟩ := zcx hall
  have hl : vs.length = n := by rw [hp.length_eq, List.length_map, Array.length_toList, hn]
  refine wpAny_bind (wpAny_newList ?_)
  have hoL : (s2.heap.push (seqObj "list" vs.toArray 0)).get? s2.heap.objs.size = some (seqObj "list" vs.toArray 0) := Heap.get?_push_size _ rfl
  refine wpAny_bind (wpAny_holding (wpAny_call_entry slot_list_sort ⟨_, hoL, rfl⟩ entry_list_sort (list_sort_tree hoL hI (by omega) fun out ns' a1 a2 a3 => ⟨_, rfl, ?_⟩) (args_list_sort _)))
  refine wpAny_pure ⟨_, rfl, ?_⟩
  obtain ⟨e, he⟩ := sortedHeap_at (out := out) hoL
  have hle := hL.size
  have hk := hL.heap
  have hg := hL.gens
  have hos := hL.os
  obtain ⟨h2, g2, d2, t2, o2⟩ := s2
  dsimp only at hg hos
  subst hg; subst hos
  refine hQ _ _ _ _ ns' out e a1 ?_ ?_ a3 (fun b ob eb => ?_) hle he
  · rw [a2.length_eq, ← IntsAre.length hI]; exact hl
  · intro k
    rw [a2.mem_iff, hm, hmem]
    constructor
    · rintro ⟨v, hv, t', rfl⟩
      obtain ⟨e', he', q⟩ := List.mem_map.mp (hp.mem_iff.mp hv)
      exact ⟨e', he', by rw [q]; exact intKind_is _ _ _ _⟩
    · rintro ⟨e', he', q⟩
      obtain ⟨t', ht⟩ := Value.isInt_shape q
      exact ⟨e'.2, hp.mem_iff.mpr (List.mem_map_of_mem he'), t', ht⟩
  · have hlt := Heap.lt_size (hk b ob eb)
    rw [sortedHeap_old (Nat.ne_of_lt hlt) (by rw [show (h2.push (seqObj "list" vs.toArray 0)).objs.size = h2.objs.size + 1 from Heap.size_push _ _]; exact Nat.lt_succ_of_lt hlt)]
    exact Heap.get?_push_of_some _ (hk b ob eb)
end
end L2
end
section
-- text: ExtT
set_option Elab.async false
set_option linter.all false
set_option maxRecDepth 100000
set_option maxHeartbeats 4000000
namespace L2
open PySem PyProof.Rows
theorem ydk : bootBuiltins "set" = some (.type "set") := by decide +kernel
theorem yba : bootBuiltins "sorted" = some (.builtin "sorted") := by decide +kernel
section
variable {X : Cx}
theorem Inv.redraw {pins : List (Addr × Obj)} {σ : St} {H : Hp} {s s' : Shared} (I : Inv X pins σ H s) (h1 : s'.heap = s.heap) (h2 : s'.gens = s.gens) (h3 : s'.os = s.os) : Inv X pins σ H s' :=
  ⟨I.ok, by rw [h3]; exact I.os, by rw [h2]; exact I.bare, by rw [h1]; exact I.base, by rw [h1]; exact I.loc, by rw [h1]; exact I.cell, I.free, I.freeC, by rw [h1]; exact I.pin, by rw [h1]; exact I.hok, I.len⟩
theorem Inv.more {pins : List (Addr × Obj)} {σ : St} {H : Hp} {s : Shared} {h' : Heap} {tk : Nat} (I : Inv X pins σ H s) (k : ∀ b o, s.heap.get? b = some o → h'.get? b = some o) : Inv X pins σ H { s with heap := h', toks := tk } :=
  I.turnedL (fp := []) (fun b hb => nomatch hb) fun b o _ e => k b o e
noncomputable def zfa (K : PySem.W.Frag) (te : TE) : TE := fun σ H Q => te σ H fun x H1 => ∃ (a : Addr) (ns : List Int), x = .ref a ∧ SqL K H1 a (ns.map V.int) ∧ ns.length < 4000 ∧ (∀ ks : List Int, ks.Nodup → (∀ k ∈ ks, k ∈ ns) → ks.length < 64) ∧
  ∀ (l : Addr) (ns' : List Int), H1 l = none → ns'.Pairwise (· < ·) → (∀ k, k ∈ ns' ↔ k ∈ ns) → Q (.ref l) (upd H1 l (.lst (ns'.map V.int)))
theorem zd5 {e : Expr} {te : TE} {p1 p2 pos pos2 : Pos} (hc : X.calm = true) (hg1 : Gl X "sorted") (hm1 : X.mg "sorted" = none) (hg2 : Gl X "set") (hm2 : X.mg "set" = none) (he : PE X e te)
    (hs : starEach [e] X.env = [(false, eval e X.env)] := by rfl) (hs2 : starEach [.Call (.Name "set" p2) [e] [] pos2] X.env = [(false, eval (.Call (.Name "set" p2) [e] [] pos2) X.env)] := by rfl) :
    PE X (.Call (.Name "sorted" p1) [.Call (.Name "set" p2) [e] [] pos2] [] pos) (zfa X.K te) := by
  intro pins s σ H Q I h
  refine wpAny_Call_Name_kw (ybq I hg1 hm1 yba ?_ (by decide) (by decide))
  refine PyProof.Rows.callWith_builtin1 ?_ hs2 rfl
  rw [hs2]
  show wpAny _ _ (spliced ((false, eval (.Call (.Name "set" p2) [e] [] pos2) X.env) :: [])) _ _ s
  refine Calls.spliced_cons ?_
  refine wpAny_Call_Name_kw (ybq I hg2 hm2 ydk ?_ (by decide) (by decide))
  refine PyProof.Rows.callWith_type1 ?_ hs rfl
  rw [hs]
  show wpAny _ _ (spliced ((false, eval e X.env) :: [])) _ _ s
  refine Calls.spliced_cons (thn (he pins s σ H _ I h) fun u s1 ⟨x, H1, I1, r1, a, ns, ex, ha, hl, h64, q⟩ => ?_)
  subst ex
  cases r1
  refine Calls.spliced_nil ?_
  obtain ⟨its, r2, p2, z2⟩ := I1.list ha
  have hlen := r2.length
  rw [List.length_map] at hlen
  have hh := I1.ok.hd hc
  refine ydV hh p2.isList (by simpa using zb2 r2) (by rw [List.size_toArray]; unfold scanBound; omega) fun h2 tk2 hS hk => ?_
  refine Calls.spliced_nil ?_
  have I2 : Inv X pins σ H1 { s1 with heap := h2, toks := tk2 } := I1.more hk
  have hsz : its.toArray.size = ns.length := by rw [List.size_toArray, hlen]
  rw [hsz] at hS
  have hfm := ya6 (fun i => ns.getD i 0) ns.length
  refine ydZ (s := { s1 with heap := h2, toks := tk2 }) hh hS (h64 _ hfm fun k hk => (ybs ns k).mp hk) fun h3 d3 tk3 L ns' out e3 b1 b2 b3 b4 b5 b6 b7 => ?_
  have hmem : ∀ k, k ∈ ns' ↔ k ∈ firstMet (fun i => ns.getD i 0) ns.length := fun k => by
    rw [b3]
    constructor
    · intro h
      obtain ⟨y, hy, q⟩ := List.any_eq_true.mp h
      rw [← eq_of_beq q]; exact hy
    · intro h; exact List.any_eq_true.mpr ⟨k, h, beq_self_eq_true _⟩
  have hnd : ns'.Nodup := (ycB hfm (fun k hk => (hmem k).mpr hk) (by rw [b2]; exact Nat.le_refl _)).nodup_iff.mp hfm
  have hlt : ns'.Pairwise (· < ·) := by
    refine List.Pairwise.imp₂ (fun a b h1 h2 => ?_) b4 hnd
    omega
  have r3 : Vals (ns'.map V.int) out.toList := zbs b1
  have I3 : Inv X pins σ (upd H1 L (.lst (ns'.map V.int))) { s1 with heap := h3, toks := tk3 } := I2.laid (a := L) (t' := tk3) (o := .lst (ns'.map V.int)) b5 b6 ⟨?_, out.toList, e3, r3, ?_⟩
  · refine ⟨.ref L, _, I3.redraw rfl rfl rfl, rfl, q L ns' (I2.hok.fresh b6) hlt fun k => (hmem k).trans (ybs ns k)⟩
  · rw [List.length_map, b2]
    have := h64 _ hfm fun k hk => (ybs ns k).mp hk
    have := sizeLine_eq
    omega
  · rw [b7]
end
end L2
end
section
-- text: ExtU
set_option Elab.async false
set_option linter.all false
set_option maxRecDepth 100000
set_option maxHeartbeats 4000000
namespace L2
open PySem PySem.Spec PyProof.Rows
section
variable {X : Cx}
noncomputable def zge (K : PySem.W.Frag) : List V → Hp → VK → Prop := fun vs H Q => ∃ (a : Addr) (ns : List Int), vs = [.ref a] ∧ SqL K H a (ns.map V.int) ∧ 0 < ns.length ∧ ∀ M, M ∈ ns → (∀ a ∈ ns, a ≤ M) → Q (.int M) H
theorem zeN (hc : X.calm = true) : ybn X (.builtin "max") (zge X.K) := by
  intro pins s σ H xs us Q I r h
  obtain ⟨a, ns, rfl, ha, hl, q⟩ := h
  obtain ⟨u, rfl, rx⟩ := ycJ r
  cases rx
  obtain ⟨its, r1, p1, z1⟩ := I.list ha
  have hi : IntsAre its ns := zb2 r1
  have hlist := p1.isList
  obtain ⟨ys, e⟩ := hi.allInts.items
  have hns : ns = ys.toList.map (·.1) := by rw [← hi.numsOf, ← nums_intItems, ← e]
  have hsz : 0 < ys.size := by
    have h3 := hl; rw [hns, List.length_map, Array.length_toList] at h3; exact h3
  rw [e] at hlist
  refine max_intList (I.ok.hd hc) hlist hsz fun v h' tk hv hk => ?_
  obtain ⟨t, rfl⟩ := intItems_at hv
  obtain ⟨h1, h2⟩ := argBest_gt (numAt ys) (ys.size - 1)
  refine ⟨.int _, H, I.more (fun b o eb => hk b o eb), yb1 _ _, q _ ?_ fun b hb => ?_⟩
  · rw [hns, numAt_eq]; exact getD_mem (by rw [List.length_map, Array.length_toList]; omega)
  · rw [hns] at hb
    obtain ⟨j, hj, rfl⟩ := mem_getD hb
    rw [List.length_map, Array.length_toList] at hj
    rw [← numAt_eq]; exact h2 j (by omega)
end
end L2
end
section
-- text: ExtV
set_option Elab.async false
set_option linter.all false
set_option maxRecDepth 100000
set_option maxHeartbeats 4000000
namespace HT
open PySem PyProof.Rows
section
variable {prog : Program} {w : World} {A : Around} {E : Value → Shared → Prop} {s : Shared}
end
end HT
namespace L2
open PySem PyProof.Rows
section
variable {X : Cx}
end
end L2
end
section
-- text: ExtW
set_option Elab.async false
set_option linter.all false
set_option maxRecDepth 100000
set_option maxHeartbeats 4000000
namespace HT
open PySem PyProof.Rows
section
variable {prog : Program} {w : World} {A : Around} {E : Value → Shared → Prop} {s : Shared}
theorem getItem_tuple_whole {t sl : Addr} {items : Array Value} {vl vu : Value} {lo hi : Option Int} {Q : Value → Shared → Prop} (ht : IsTup s.heap t items) (hs : s.heap.IsSliceOf sl vl vu .none) (pl : IsPart vl lo) (pu : IsPart vu hi)
    (hw : sIx items.size 0 lo = 0 ∧ sIx items.size items.size hi = items.size) (h : Q (.ref t) s) : wpAny (model prog w) A (getItem (.ref t) (.ref sl)) Q E s := by
  obtain ⟨os, hos, hcs, hds⟩ := id hs
  have hTs : s.TypeIs (.ref sl) "slice" := ⟨os, hos, hcs⟩
  unfold getItem
  try with_reducible refine wpAny_holding ?_
  first | refine wpAny_bind (wpAny_pure ?_) | skip
  refine wpAny_bind (wpAny_sequenceKey ht.typeIs (by decide) ?_)
  refine wpAny_bind (wpAny_callSpecial?_slot (name := Str.ofString "__getitem__") ht.typeIs PyProof.Rows.slot_tuple_getitem
    (wpAny_call_entry PyProof.Rows.slot_tuple_getitem ht.typeIs entry_tuple_getitem ?_ (args_tuple_getitem _ _)))
  show wpAny _ _ (Builtin.Tuple.tupleItemsOf (.ref t) >>= _) _ _ s
  refine wpAny_bind (tupleItemsOf_ ht ?_)
  refine wpAny_bind (wpAny_typeOf hTs ?_)
  rw [if_pos (by decide)]
  refine wpAny_bind (ybp hs pl pu ?_)
  have hyes : (((sIx items.size 0 lo : Nat) : Int) == 0 && (1 : Int) == 1 && (sIx items.size items.size hi - sIx items.size 0 lo) == items.size) = true := by
    rw [hw.1, hw.2, Nat.sub_zero]; simp
  show wpAny _ _ (if (((sIx items.size 0 lo : Nat) : Int) == 0 && (1 : Int) == 1 && (sIx items.size items.size hi - sIx items.size 0 lo) == items.size) = true then _ else _) _ _ s
  rw [if_pos hyes]
  unfold Builtin.Tuple.tupleIsExact
  refine wpAny_bind (wpAny_bind (wpAny_typeOf ht.typeIs (wpAny_pure ?_)))
  rw [if_pos (by decide)]
  first
    | exact wpAny_bind (wpAny_rule (wpAny_pure ⟨_, rfl, wpAny_pure h⟩))
    | exact wpAny_bind (wpAny_bind (wpAny_rule (wpAny_pure (wpAny_pure ⟨_, rfl, wpAny_pure h⟩))))
    | exact wpAny_bind (wpAny_rule (wpAny_bind (wpAny_pure (wpAny_pure ⟨_, rfl, wpAny_pure h⟩))))
    | (refine wpAny_bind (wpAny_rule ?_); trace_state; exact wpAny_pure h)
end
end HT
namespace L2
open PySem PyProof.Rows
section
variable {X : Cx}
noncomputable def rSlA (K : PySem.W.Frag) : V → Option Int → Option Int → Hp → VK → Prop := fun x lo hi H Q => ∃ a xs, x = .ref a ∧ SqT K H a xs ∧ (cutV xs lo hi = xs → Q (.ref a) H) ∧ ∀ p, H p = none → Q (.ref p) (upd H p (.tup (cutV xs lo hi)))
theorem zek : SlR X (rSlA X.K) := by
  intro pins s σ H x v vl vu lo hi sl Q I rx hs pl pu h
  obtain ⟨a, xs, rfl, hx, q1, q⟩ := h
  by_cases hw : HT.sIx xs.length 0 lo = 0 ∧ HT.sIx xs.length xs.length hi = xs.length
  · cases rx
    obtain ⟨its, r, ht, hz⟩ := I.tuple hx
    have hlen : its.toArray.size = xs.length := by rw [List.size_toArray]; exact r.length.symm
    refine ⟨"tuple", _, PyProof.Rows.slot_tuple_getitem.lookup, ht.typeIs, ?_⟩
    refine HT.getItem_tuple_whole ht hs pl pu (by rw [hlen]; exact hw) ?_
    exact ⟨.ref a, H, I, rfl, q1 (by unfold cutV; rw [hw.1, hw.2, Nat.sub_zero, List.drop_zero, List.take_length])⟩
  · exact zfZ pins s σ H _ v vl vu lo hi sl Q I rx hs pl pu ⟨a, xs, rfl, hx, hw, q⟩
end
end L2
end
section
-- text: ExtX
set_option Elab.async false
set_option linter.all false
set_option maxRecDepth 100000
set_option maxHeartbeats 4000000
namespace L2
open PySem PySem.Spec PyProof.Rows
section
variable {X : Cx}
end
end L2
end
section
-- text: ExtY
set_option Elab.async false
set_option linter.all false
set_option maxRecDepth 100000
set_option maxHeartbeats 4000000
namespace L2
open PySem PySem.Spec PyProof.Rows
section
variable {X : Cx}
end
end L2
namespace L2
open PySem PySem.Spec PyProof.Rows
section
variable {X : Cx} {K : PySem.W.Frag}
end
end L2
end
section
-- text: ExtZ
set_option Elab.async false
set_option linter.all false
set_option maxRecDepth 100000
set_option maxHeartbeats 4000000
namespace L2
open PySem PySem.Spec PyProof.Rows
section
variable {X : Cx}
end
structure DOk (d : PyData) (w : Nat) : Prop where
  sh : d.showable = true
  nd : d.hasDict = false
  dp : d.depth ≤ 40
  sl : d.leavesShort 8 = true
  we : d.weight ≤ w
section
variable {X : Cx}
end
end L2
end
section
-- text: ExtRa
set_option Elab.async false
set_option linter.all false
set_option maxRecDepth 100000
set_option maxHeartbeats 4000000
namespace L2
open PySem PySem.Spec PyProof.Rows
section
variable {prog : Program} {w : World} {A : Around} {E : Value → Shared → Prop} {s : Shared}
end
section
variable {X : Cx}
end
end L2
end
section
-- text: ExtRb
set_option Elab.async false
set_option linter.all false
set_option maxRecDepth 100000
set_option maxHeartbeats 4000000
namespace L2
open PySem PySem.Spec PyProof.Rows
section
variable {X : Cx}
end
end L2
end
section
-- text: ExtRc
set_option Elab.async false
set_option linter.all false
set_option maxRecDepth 100000
set_option maxHeartbeats 4000000
namespace L2
open PySem PySem.Spec PyProof.Rows
section
variable {X : Cx} {pins : List (Addr × Obj)} {σ : St} {H : Hp} {s : Shared} {a : Addr}
end
section
variable {X : Cx} {tg : Expr}
end
end L2
end
section
-- text: MathA
set_option linter.all false
set_option autoImplicit false
namespace Dg
noncomputable def dg (p i x : Nat) : Nat := x / p ^ i % p
theorem ybi (p x : Nat) : dg p 0 x = x % p := by simp [dg]
theorem ybw (p i x : Nat) : dg p (i + 1) x = dg p i (x / p) := by
  unfold dg; rw [Nat.pow_succ, Nat.mul_comm, Nat.div_div_eq_div_mul]
theorem yfP {p : Nat} (hp : 2 ≤ p) (i x : Nat) : dg p i x < p := Nat.mod_lt _ (by omega)
theorem zaB {p : Nat} (hp : 2 ≤ p) {i k x : Nat} (h : x < p ^ k) (hk : k ≤ i) : dg p i x = 0 := by
  unfold dg
  have : x < p ^ i := Nat.lt_of_lt_of_le h (Nat.pow_le_pow_right (by omega) hk)
  rw [Nat.div_eq_of_lt this, Nat.zero_mod]
theorem zbq (p i : Nat) : dg p i 0 = 0 := by simp [dg]
theorem ext {p : Nat} (hp : 2 ≤ p) : ∀ {a b : Nat}, (∀ i, dg p i a = dg p i b) → a = b := by
  intro a
  induction a using Nat.strongRecOn with
  | _ a ih =>
    intro b h
    have h0 := h 0
    rw [ybi, ybi] at h0
    by_cases ha : a = 0
    · subst ha
      have key : ∀ n, ∀ b, b ≤ n → (∀ i, dg p i b = 0) → b = 0 := by
        intro n
        induction n with
        | zero => intro b hb _; omega
        | succ n ihn =>
          intro b hb hz
          by_cases hb0 : b = 0
          · exact hb0
          · have hlt : b / p < b := Nat.div_lt_self (by omega) (by omega)
            have hd : b / p = 0 := ihn (b / p) (by omega) fun i => by rw [← ybw]; exact hz (i + 1)
            have hm : b % p = 0 := by rw [← ybi]; exact hz 0
            have := Nat.div_add_mod b p
            rw [hd, hm] at this
            simpa using this.symm
      exact (key b b (Nat.le_refl _) fun i => by rw [← h i, zbq]).symm
    · have hlt : a / p < a := Nat.div_lt_self (by omega) (by omega)
      have hd : a / p = b / p := ih (a / p) hlt fun i => by rw [← ybw, ← ybw]; exact h (i + 1)
      have e1 := Nat.div_add_mod a p
      have e2 := Nat.div_add_mod b p
      rw [← e1, ← e2, hd, h0]
theorem zbU {p : Nat} (hp : 2 ≤ p) {j r : Nat} (h : ∀ i, j ≤ i → dg p i r = 0) : r < p ^ j := by
  have hpos : 0 < p ^ j := Nat.pow_pos (by omega)
  have hq : r / p ^ j = 0 := by
    refine ext hp fun i => ?_
    rw [zbq]
    have := h (j + i) (by omega)
    unfold dg at this ⊢
    rw [Nat.pow_add, ← Nat.div_div_eq_div_mul] at this
    exact this
  have := Nat.div_add_mod r (p ^ j)
  rw [hq, Nat.mul_zero, Nat.zero_add] at this
  rw [← this]
  exact Nat.mod_lt _ hpos
theorem yfj {p : Nat} (hp : 2 ≤ p) {k t d : Nat} (ht : t < p ^ k) (hd : d < p) (i : Nat) : dg p i (t + d * p ^ k) = if i = k then d else dg p i t := by
  have hpos : 0 < p ^ k := Nat.pow_pos (by omega)
  unfold dg
  by_cases h1 : i < k
  · rw [if_neg (by omega)]
    obtain ⟨c, rfl⟩ : ∃ c, k = i + (c + 1) := ⟨k - i - 1, by omega⟩
    have e : d * p ^ (i + (c + 1)) = p ^ i * (d * p ^ c * p) := by rw [Nat.pow_add, Nat.pow_succ]; ac_rfl
    rw [e, Nat.add_mul_div_left _ _ (Nat.pow_pos (by omega)), Nat.add_mul_mod_self_right]
  · by_cases h2 : i = k
    · subst h2
      rw [if_pos rfl, Nat.add_mul_div_right _ _ hpos, Nat.div_eq_of_lt ht, Nat.zero_add, Nat.mod_eq_of_lt hd]
    · rw [if_neg h2]
      have hlt : t + d * p ^ k < p ^ i := by
        have : t + d * p ^ k < p ^ (k + 1) := by
          rw [Nat.pow_succ]
          calc t + d * p ^ k < p ^ k + d * p ^ k := by omega
            _ = (d + 1) * p ^ k := by rw [Nat.add_mul]; omega
            _ ≤ p * p ^ k := Nat.mul_le_mul_right _ hd
            _ = p ^ k * p := Nat.mul_comm _ _
        exact Nat.lt_of_lt_of_le this (Nat.pow_le_pow_right (by omega) (by omega))
      rw [Nat.div_eq_of_lt hlt, Nat.div_eq_of_lt (Nat.lt_of_lt_of_le ht (Nat.pow_le_pow_right (by omega) (by omega)))]
theorem zfk {p : Nat} {k t d : Nat} (ht : t < p ^ k) (hd : d < p) : t + d * p ^ k < p ^ (k + 1) := by
  rw [Nat.pow_succ]
  calc t + d * p ^ k < p ^ k + d * p ^ k := by omega
    _ = (d + 1) * p ^ k := by rw [Nat.add_mul]; omega
    _ ≤ p * p ^ k := Nat.mul_le_mul_right _ hd
    _ = p ^ k * p := Nat.mul_comm _ _
noncomputable def yaB (f : Nat → Nat) : Nat → Nat := fun i => if i = 0 then 0 else f (i - 1)
noncomputable def yax (m : Nat) (t f : Nat → Nat) : Nat → Nat := fun i => if i < m then yaB f i + f (m - 1) * t i else 0
noncomputable def tn (m : Nat) (t : Nat → Nat) : Nat → (Nat → Nat) → (Nat → Nat) → Nat → Nat
  | 0, _, _ => fun _ => 0
  | k + 1, f, y => fun i => f 0 * y i + tn m t k (fun j => f (j + 1)) (yax m t y) i
noncomputable def zbl (m : Nat) (t : Nat → Nat) (q : Nat) (f : Nat → Nat) : Nat → Nat := fun i => f i + if q - m ≤ i ∧ i < q then f q * t (i - (q - m)) else 0
noncomputable def redF (m : Nat) (t : Nat → Nat) : Nat → (Nat → Nat) → (Nat → Nat)
  | 0, f => f
  | j + 1, f => redF m t j (zbl m t (m + j) f)
noncomputable def zcD : Nat → (Nat → Nat) → (Nat → Nat) → Nat → Nat
  | 0, _, _ => fun _ => 0
  | k + 1, f, y => fun i => f 0 * y i + yaB (zcD k (fun j => f (j + 1)) y) i
section
variable {m : Nat} {t : Nat → Nat}
theorem zeI (q c : Nat) (f g : Nat → Nat) : zbl m t q (fun i => c * f i + g i) = fun i => c * zbl m t q f i + zbl m t q g i := by
  funext i
  unfold zbl
  split
  · dsimp only; rw [Nat.mul_add, Nat.add_mul]; ac_rfl
  · simp
theorem zdG (c : Nat) : ∀ (j : Nat) (f g : Nat → Nat), redF m t j (fun i => c * f i + g i) = fun i => c * redF m t j f i + redF m t j g i
  | 0, f, g => rfl
  | j + 1, f, g => by
    show redF m t j (zbl m t (m + j) fun i => c * f i + g i) = _
    rw [zeI, zdG c j]
    rfl
theorem zdo {q : Nat} (hq : m ≤ q) (f : Nat → Nat) : zbl m t (q + 1) (yaB f) = yaB (zbl m t q f) := by
  funext i
  unfold zbl yaB
  by_cases h0 : i = 0
  · subst h0
    rw [if_pos rfl, if_pos rfl]
    rw [if_neg (by omega)]
  · rw [if_neg h0, if_neg h0, if_neg (show ¬ q + 1 = 0 by omega)]
    congr 1
    by_cases h1 : q - m ≤ i - 1 ∧ i - 1 < q
    · rw [if_pos h1, if_pos (by omega), Nat.add_sub_cancel]
      congr 2
      omega
    · rw [if_neg h1, if_neg (by omega)]
theorem zcy (hm : 1 ≤ m) : ∀ (j : Nat) (f : Nat → Nat) (i : Nat), i < m → redF m t (j + 1) (yaB f) i = yax m t (redF m t j f) i
  | 0, f, i, hi => by
    show zbl m t (m + 0) (yaB f) i = yax m t f i
    unfold zbl yax
    rw [if_pos hi, if_pos (by omega)]
    congr 1
    show yaB f (m + 0) * t (i - (m + 0 - m)) = _
    unfold yaB
    rw [if_neg (by omega)]
    simp
  | j + 1, f, i, hi => by
    show redF m t (j + 1) (zbl m t (m + (j + 1)) (yaB f)) i = yax m t (redF m t j (zbl m t (m + j) f)) i
    rw [← zcy hm j (zbl m t (m + j) f) i hi, ← zdo (by omega)]
    rfl
theorem zdL : ∀ (j : Nat) (f : Nat → Nat), (∀ q, m ≤ q → f q = 0) → redF m t j f = f
  | 0, f, _ => rfl
  | j + 1, f, h => by
    have e : zbl m t (m + j) f = f := by
      funext i
      unfold zbl
      rw [h (m + j) (by omega)]
      simp
    show redF m t j (zbl m t (m + j) f) = f
    rw [e]
    exact zdL j f h
theorem zcX (c : Nat) (f g : Nat → Nat) : yax m t (fun i => c * f i + g i) = fun i => c * yax m t f i + yax m t g i := by
  funext i
  unfold yax yaB
  split
  · split
    · simp [Nat.mul_add, Nat.add_mul, Nat.mul_assoc]
    · dsimp only; rw [Nat.mul_add, Nat.add_mul]; ac_rfl
  · simp
theorem zdr : ∀ (k : Nat) (f y : Nat → Nat), yax m t (tn m t k f y) = tn m t k f (yax m t y)
  | 0, f, y => by
    funext i
    show yax m t (fun _ => 0) i = 0
    unfold yax yaB
    split
    · split <;> simp
    · rfl
  | k + 1, f, y => by
    show yax m t (fun i => f 0 * y i + tn m t k (fun j => f (j + 1)) (yax m t y) i) = _
    rw [zcX, zdr k]
    rfl
theorem zdQ (hm : 1 ≤ m) : ∀ (k : Nat) (f y : Nat → Nat), (∀ q, m ≤ q → y q = 0) → ∀ i, i < m → redF m t k (zcD (k + 1) f y) i = tn m t (k + 1) f y i
  | 0, f, y, hy, i, hi => by
    show f 0 * y i + yaB (fun _ => 0) i = f 0 * y i + 0
    unfold yaB
    split <;> rfl
  | k + 1, f, y, hy, i, hi => by
    show redF m t (k + 1) (fun i => f 0 * y i + yaB (zcD (k + 1) (fun j => f (j + 1)) y) i) i = f 0 * y i + tn m t (k + 1) (fun j => f (j + 1)) (yax m t y) i
    rw [zdG]
    show f 0 * redF m t (k + 1) y i + redF m t (k + 1) (yaB (zcD (k + 1) (fun j => f (j + 1)) y)) i = _
    rw [zdL (k + 1) y hy, zcy hm k _ i hi]
    congr 1
    have e : ∀ i, i < m → redF m t k (zcD (k + 1) (fun j => f (j + 1)) y) i = tn m t (k + 1) (fun j => f (j + 1)) y i := fun i hi => zdQ hm k _ y hy i hi
    rw [← zdr]
    unfold yax yaB
    rw [if_pos hi, if_pos hi, e (m - 1) (by omega)]
    by_cases h0 : i = 0
    · rw [if_pos h0, if_pos h0]
    · rw [if_neg h0, if_neg h0, e (i - 1) (by omega)]
end
theorem yb8 {m : Nat} {t : Nat → Nat} : ∀ (k : Nat) (f y : Nat → Nat) (i : Nat), (∀ j, f j = 0) → tn m t k f y i = 0
  | 0, _, _, _, _ => rfl
  | k + 1, f, y, i, h => by
    show f 0 * y i + tn m t k (fun j => f (j + 1)) (yax m t y) i = 0
    rw [h 0, yb8 k _ _ i fun j => h (j + 1)]
    simp
theorem ybl {p a b c d : Nat} (h1 : a % p = c % p) (h2 : b % p = d % p) : (a + b) % p = (c + d) % p := by rw [Nat.add_mod, h1, h2, ← Nat.add_mod]
theorem ycG {p a b c d : Nat} (h1 : a % p = c % p) (h2 : b % p = d % p) : (a * b) % p = (c * d) % p := by rw [Nat.mul_mod, h1, h2, ← Nat.mul_mod]
theorem zdy {p m : Nat} (hm : 1 ≤ m) {t y y' : Nat → Nat} (h : ∀ i, i < m → y i % p = y' i % p) (i : Nat) : yax m t y i % p = yax m t y' i % p := by
  unfold yax yaB
  split
  · refine ybl ?_ (ycG (h (m - 1) (by omega)) rfl)
    split
    · rfl
    · exact h (i - 1) (by omega)
  · rfl
theorem zbp {p m : Nat} (hm : 1 ≤ m) {t : Nat → Nat} : ∀ (k : Nat) (f y y' : Nat → Nat), (∀ i, i < m → y i % p = y' i % p) → ∀ i, i < m → tn m t k f y i % p = tn m t k f y' i % p
  | 0, _, _, _, _, _, _ => rfl
  | k + 1, f, y, y', h, i, hi => ybl (ycG rfl (h i hi)) (zbp hm k _ _ _ (fun j _ => zdy hm h j) i hi)
theorem ycg (p x : Nat) : (fun j => dg p (j + 1) x) = fun j => dg p j (x / p) := by funext j; exact ybw p j x
theorem zfi (p i x : Nat) : dg p i x % p = dg p i x := by unfold dg; exact Nat.mod_mod _ _
theorem zfY {p : Nat} (hp : 2 ≤ p) (k i x : Nat) : dg p i (x % p ^ k) = if i < k then dg p i x else 0 := by
  by_cases h : i < k
  · rw [if_pos h]
    unfold dg
    obtain ⟨c, rfl⟩ : ∃ c, k = i + (c + 1) := ⟨k - i - 1, by omega⟩
    rw [Nat.pow_add, Nat.mod_mul_right_div_self, Nat.pow_succ, Nat.mul_comm (p ^ c) p, Nat.mod_mul_right_mod]
  · rw [if_neg h]
    exact zaB hp (Nat.mod_lt _ (Nat.pow_pos (by omega))) (by omega)
theorem zf7 {p : Nat} (hp : 2 ≤ p) (i x : Nat) : dg p i (x * p) = if i = 0 then 0 else dg p (i - 1) x := by
  cases i with
  | zero => rw [ybi, if_pos rfl, Nat.mul_mod_left]
  | succ i => rw [if_neg (by omega), ybw, Nat.mul_div_cancel _ (by omega)]; rfl
theorem yfD {p m x : Nat} (hp : 2 ≤ p) (hm : 1 ≤ m) (h : x < p ^ m) : x / p ^ (m - 1) = dg p (m - 1) x := by
  unfold dg
  rw [Nat.mod_eq_of_lt]
  obtain ⟨c, rfl⟩ : ∃ c, m = c + 1 := ⟨m - 1, by omega⟩
  exact Nat.div_lt_of_lt_mul (by simpa [Nat.pow_succ] using h)
end Dg
end
section
-- text: MathB
set_option linter.all false
namespace Dg
noncomputable def ofF (p : Nat) : Nat → (Nat → Nat) → Nat
  | 0, _ => 0
  | m + 1, f => f 0 % p + p * ofF p m (fun j => f (j + 1))
theorem yfe {p : Nat} (hp : 2 ≤ p) : ∀ (m : Nat) (f : Nat → Nat), ofF p m f < p ^ m
  | 0, f => by simp [ofF]
  | m + 1, f => by
    have h := yfe hp m fun j => f (j + 1)
    have h1 : f 0 % p < p := Nat.mod_lt _ (by omega)
    show f 0 % p + p * ofF p m (fun j => f (j + 1)) < p ^ (m + 1)
    calc f 0 % p + p * ofF p m (fun j => f (j + 1)) < p + p * ofF p m (fun j => f (j + 1)) := by omega
      _ = p * (ofF p m (fun j => f (j + 1)) + 1) := by rw [Nat.mul_add, Nat.mul_one, Nat.add_comm]
      _ ≤ p * p ^ m := Nat.mul_le_mul_left _ h
      _ = p ^ (m + 1) := by rw [Nat.pow_succ, Nat.mul_comm]
theorem yeQ {p : Nat} (hp : 2 ≤ p) : ∀ (m : Nat) (f : Nat → Nat) (i : Nat), dg p i (ofF p m f) = if i < m then f i % p else 0
  | 0, f, i => by simp [ofF, zbq]
  | m + 1, f, i => by
    have h1 : f 0 % p < p := Nat.mod_lt _ (by omega)
    cases i with
    | zero =>
      rw [if_pos (by omega), ybi]
      show (f 0 % p + p * ofF p m (fun j => f (j + 1))) % p = f 0 % p
      rw [Nat.add_mul_mod_self_left, Nat.mod_mod]
    | succ i =>
      rw [ybw]
      show dg p i ((f 0 % p + p * ofF p m (fun j => f (j + 1))) / p) = _
      rw [Nat.add_mul_div_left _ _ (by omega), Nat.div_eq_of_lt h1, Nat.zero_add, yeQ hp m]
      by_cases h : i < m
      · rw [if_pos h, if_pos (by omega)]
      · rw [if_neg h, if_neg (by omega)]
theorem ycZ {p : Nat} (hp : 2 ≤ p) {m a b : Nat} (ha : a < p ^ m) (hb : b < p ^ m) (h : ∀ i, i < m → dg p i a = dg p i b) : a = b :=
  ext hp fun i => by
    by_cases hi : i < m
    · exact h i hi
    · rw [zaB hp ha (by omega), zaB hp hb (by omega)]
noncomputable abbrev dgs (p x : Nat) : Nat → Nat := fun i => dg p i x
noncomputable def up (p m t x : Nat) : Nat := ofF p m (yax m (dgs p t) (dgs p x))
noncomputable def mulN (p m t : Nat) : Nat → Nat → Nat → Nat
  | 0, _, _ => 0
  | k + 1, x, y => ofF p m fun i => x % p * dg p i y + dg p i (mulN p m t k (x / p) (up p m t y))
noncomputable def mul (p m t x y : Nat) : Nat := mulN p m t m x y
section
variable {p m t : Nat} (hp : 2 ≤ p) (hm : 1 ≤ m)
include hp hm
theorem zd9 : ∀ (k x y i : Nat), i < m → dg p i (mulN p m t k x y) = tn m (dgs p t) k (dgs p x) (dgs p y) i % p
  | 0, x, y, i, hi => by show dg p i 0 = 0 % p; rw [zbq]; simp
  | k + 1, x, y, i, hi => by
    show dg p i (ofF p m fun i => x % p * dg p i y + dg p i (mulN p m t k (x / p) (up p m t y))) = _
    rw [yeQ hp, if_pos hi]
    show _ = (dg p 0 x * dg p i y + tn m (dgs p t) k (fun j => dg p (j + 1) x) (yax m (dgs p t) (dgs p y)) i) % p
    rw [zd9 k _ _ i hi, ybi]
    refine ybl rfl ?_
    rw [Nat.mod_mod, ycg]
    refine zbp hm k _ _ _ (fun j hj => ?_) i hi
    show dg p j (up p m t y) % p = _
    unfold up
    rw [yeQ hp, if_pos hj, Nat.mod_mod]
theorem yfG : ∀ (k x y : Nat), mulN p m t k x y < p ^ m
  | 0, x, y => Nat.pow_pos (by omega)
  | k + 1, x, y => yfe hp _ _
theorem zbF (x y : Nat) : mul p m t x y < p ^ m := yfG hp hm _ _ _
theorem ybM (x y i : Nat) (hi : i < m) : dg p i (mul p m t x y) = tn m (dgs p t) m (dgs p x) (dgs p y) i % p := zd9 hp hm m x y i hi
theorem zdc {x y r : Nat} (hr : r < p ^ m) (h : ∀ i, i < m → dg p i r = tn m (dgs p t) m (dgs p x) (dgs p y) i % p) : r = mul p m t x y :=
  ycZ hp hr (zbF hp hm x y) fun i hi => by rw [h i hi, ybM hp hm x y i hi]
end
section
variable {m : Nat} {t : Nat → Nat}
theorem zdN (c : Nat) : ∀ (k : Nat) (f y z : Nat → Nat), tn m t k f (fun i => c * y i + z i) = fun i => c * tn m t k f y i + tn m t k f z i
  | 0, f, y, z => by funext i; rfl
  | k + 1, f, y, z => by
    funext i
    show f 0 * (c * y i + z i) + tn m t k (fun j => f (j + 1)) (yax m t fun i => c * y i + z i) i = c * (f 0 * y i + tn m t k (fun j => f (j + 1)) (yax m t y) i) + (f 0 * z i + tn m t k (fun j => f (j + 1)) (yax m t z) i)
    rw [zcX, zdN c k]
    dsimp only
    rw [Nat.mul_add, Nat.mul_add, Nat.mul_left_comm]
    omega
theorem yds : ∀ (k l : Nat) (f g y : Nat → Nat), tn m t k f (tn m t l g y) = tn m t l g (tn m t k f y)
  | 0, l, f, g, y => by
    show (fun _ => 0) = tn m t l g (fun _ => 0)
    have h := zdN (m := m) (t := t) 0 l g (fun _ => 0) (fun _ => 0)
    funext i
    have h2 := zdN (m := m) (t := t) 1 l g (fun _ => 0) (fun _ => 0)
    have h3 := congrFun h2 i
    simp at h3
    exact h3.symm
  | k + 1, l, f, g, y => by
    show (fun i => f 0 * tn m t l g y i + tn m t k (fun j => f (j + 1)) (yax m t (tn m t l g y)) i) = tn m t l g (fun i => f 0 * y i + tn m t k (fun j => f (j + 1)) (yax m t y) i)
    rw [zdr, yds k, zdN]
noncomputable def ybG (s : Nat) : Nat → Nat := fun i => if i = s then 1 else 0
theorem yeG {s : Nat} (h : s + 1 < m) : yax m t (ybG s) = ybG (s + 1) := by
  funext i
  unfold yax yaB ybG
  rw [if_neg (show ¬ m - 1 = s by omega), Nat.zero_mul, Nat.add_zero]
  by_cases hi : i < m
  · rw [if_pos hi]
    by_cases h0 : i = 0
    · rw [if_pos h0, if_neg (by omega)]
    · rw [if_neg h0]
      by_cases hs : i - 1 = s
      · rw [if_pos hs, if_pos (by omega)]
      · rw [if_neg hs, if_neg (by omega)]
  · rw [if_neg hi, if_neg (by omega)]
theorem yeb : ∀ (k s : Nat) (f : Nat → Nat) (i : Nat), s + k ≤ m → tn m t k f (ybG s) i = if s ≤ i ∧ i < s + k then f (i - s) else 0
  | 0, s, f, i, _ => by rw [if_neg (by omega)]; rfl
  | k + 1, s, f, i, h => by
    show f 0 * ybG s i + tn m t k (fun j => f (j + 1)) (yax m t (ybG s)) i = _
    cases k with
    | zero =>
      show f 0 * ybG s i + 0 = _
      unfold ybG
      by_cases hi : i = s
      · rw [if_pos hi, if_pos (by omega)]; subst hi; simp
      · rw [if_neg hi, if_neg (by omega)]; simp
    | succ k =>
      rw [yeG (by omega), yeb (k + 1) (s + 1) _ i (by omega)]
      unfold ybG
      by_cases hi : i = s
      · subst hi; rw [if_pos rfl, if_neg (by omega), if_pos (by omega)]; simp
      · rw [if_neg hi]
        by_cases h2 : s + 1 ≤ i ∧ i < s + 1 + (k + 1)
        · rw [if_pos h2, if_pos (by omega)]
          show f 0 * 0 + f (i - (s + 1) + 1) = f (i - s)
          rw [Nat.mul_zero, Nat.zero_add]; congr 1; omega
        · rw [if_neg h2, if_neg (by omega)]; simp
theorem zeJ (f : Nat → Nat) (i : Nat) (hi : i < m) : tn m t m f (ybG 0) i = f i := by
  rw [yeb m 0 f i (by omega), if_pos (by omega), Nat.sub_zero]
end
section
variable {p m t : Nat} (hp : 2 ≤ p) (hm : 1 ≤ m)
include hp hm
theorem mul_comm (x y : Nat) : mul p m t x y = mul p m t y x := by
  refine ycZ hp (zbF hp hm _ _) (zbF hp hm _ _) fun i hi => ?_
  rw [ybM hp hm _ _ i hi, ybM hp hm _ _ i hi]
  have h1 := zbp (p := p) hm (t := dgs p t) m (dgs p x) (dgs p y) (tn m (dgs p t) m (dgs p y) (ybG 0)) (fun j hj => by rw [zeJ _ j hj]) i hi
  have h2 := zbp (p := p) hm (t := dgs p t) m (dgs p y) (dgs p x) (tn m (dgs p t) m (dgs p x) (ybG 0)) (fun j hj => by rw [zeJ _ j hj]) i hi
  rw [h1, h2, yds]
theorem mul_left_comm (x y z : Nat) : mul p m t x (mul p m t y z) = mul p m t y (mul p m t x z) := by
  refine ycZ hp (zbF hp hm _ _) (zbF hp hm _ _) fun i hi => ?_
  rw [ybM hp hm _ _ i hi, ybM hp hm _ _ i hi]
  have h1 := zbp (p := p) hm (t := dgs p t) m (dgs p x) (dgs p (mul p m t y z)) (tn m (dgs p t) m (dgs p y) (dgs p z)) (fun j hj => by show dg p j _ % p = _; rw [ybM hp hm _ _ j hj, Nat.mod_mod]) i hi
  have h2 := zbp (p := p) hm (t := dgs p t) m (dgs p y) (dgs p (mul p m t x z)) (tn m (dgs p t) m (dgs p x) (dgs p z)) (fun j hj => by show dg p j _ % p = _; rw [ybM hp hm _ _ j hj, Nat.mod_mod]) i hi
  rw [h1, h2, yds]
theorem mul_assoc (x y z : Nat) : mul p m t (mul p m t x y) z = mul p m t x (mul p m t y z) := by
  rw [mul_comm hp hm _ z, mul_left_comm hp hm z x y, mul_comm hp hm z y]
theorem ybE : 1 < p ^ m := by
  have : p ^ 1 ≤ p ^ m := Nat.pow_le_pow_right (by omega) hm
  rw [Nat.pow_one] at this; omega
theorem zfK (i : Nat) : dg p i 1 = ybG 0 i := by
  unfold ybG
  cases i with
  | zero => rw [ybi, if_pos rfl, Nat.mod_eq_of_lt (by omega)]
  | succ i => rw [if_neg (by omega), ybw, Nat.div_eq_of_lt (by omega), zbq]
theorem mul_one {x : Nat} (hx : x < p ^ m) : mul p m t x 1 = x := by
  refine ycZ hp (zbF hp hm _ _) hx fun i hi => ?_
  rw [ybM hp hm _ _ i hi, show dgs p 1 = ybG 0 from funext fun i => zfK hp hm i, zeJ _ i hi, zfi]
theorem one_mul {x : Nat} (hx : x < p ^ m) : mul p m t 1 x = x := by rw [mul_comm hp hm, mul_one hp hm hx]
theorem zero_mul (x : Nat) : mul p m t 0 x = 0 := by
  refine ycZ hp (zbF hp hm _ _) (Nat.pow_pos (by omega)) fun i hi => ?_
  rw [ybM hp hm _ _ i hi, yb8 _ _ _ _ (fun j => zbq p j), zbq]; simp
theorem mul_zero (x : Nat) : mul p m t x 0 = 0 := by rw [mul_comm hp hm, zero_mul hp hm]
noncomputable def pw (p m t x : Nat) : Nat → Nat
  | 0 => 1
  | n + 1 => mul p m t (pw p m t x n) x
theorem ycP (x n : Nat) : pw p m t x n < p ^ m := by
  cases n with
  | zero => exact ybE hp hm
  | succ n => exact zbF hp hm _ _
theorem ybX (x a : Nat) : ∀ b, pw p m t x (a + b) = mul p m t (pw p m t x a) (pw p m t x b)
  | 0 => (mul_one hp hm (ycP hp hm x a)).symm
  | b + 1 => by
    show mul p m t (pw p m t x (a + b)) x = mul p m t (pw p m t x a) (mul p m t (pw p m t x b) x)
    rw [ybX x a b, mul_assoc hp hm]
theorem ycX {x : Nat} (hx : x < p ^ m) : pw p m t x 1 = x := one_mul hp hm hx
theorem zci (x a : Nat) : ∀ b, pw p m t x (a * b) = pw p m t (pw p m t x a) b
  | 0 => rfl
  | b + 1 => by
    rw [Nat.mul_succ, ybX hp hm, zci x a b]; rfl
theorem ydE : ∀ n, pw p m t 1 n = 1
  | 0 => rfl
  | n + 1 => by
    show mul p m t (pw p m t 1 n) 1 = 1
    rw [ydE n, mul_one hp hm (ybE hp hm)]
end
end Dg
end
section
-- text: MathC
set_option linter.all false
set_option maxRecDepth 100000
namespace Dg
noncomputable def yfx : List (Nat × Nat × List (Nat × Nat)) := [(2, 1, [(1, 0)]), (2, 2, [(2, 2), (3, 3), (2, 3), (2, 0)]), (2, 3, [(2, 4), (3, 7), (2, 5), (2, 0), (2, 6), (2, 0), (2, 7), (3, 5)]), (2, 4, [(2, 8), (3, 15), (2, 9), (2, 0), (2, 10), (7, 7), (2, 11), (3, 13), (2, 12), (2, 0), (2, 13), (3, 9), (2, 14), (3, 11), (2, 15), (3, 0)]), (3, 1, [(2, 0)]), (3, 2, [(3, 3), (4, 5), (4, 0), (3, 5), (3, 0), (4, 4), (3, 4), (3, 0), (5, 5)]), (3, 3, [(3, 9), (5, 13), (4, 16), (3, 11), (6, 0), (3, 0), (3, 10), (4, 17), (5, 14), (3, 15), (4, 14), (3, 0), (3, 17), (4, 0), (4, 13), (3, 16), (5, 10), (3, 0), (3, 12), (5, 0), (5, 17), (3, 14), (4, 11), (3, 0), (3, 13), (4, 0), (4, 10)]), (5, 1, [(2, 0)]), (5, 2, [(5, 5), (6, 9), (7, 0), (6, 0), (7, 8), (5, 9), (7, 7), (6, 8), (5, 0), (6, 0), (5, 8), (6, 0), (5, 0), (6, 7), (9, 9), (5, 7), (8, 0), (5, 0), (8, 9), (6, 6), (5, 6), (8, 8), (7, 9), (5, 0), (7, 0)]), (7, 1, [(3, 0)]), (11, 1, [(2, 0)]), (13, 1, [(2, 0)]), (2, 5, [(2, 16), (3, 31), (2, 17), (7, 13), (2, 18), (2, 0), (2, 19), (3, 29), (2, 20), (2, 0), (2, 21), (3, 25), (2, 22), (3, 27), (2, 23), (2, 0), (2, 24), (7, 11), (2, 25), (3, 17), (2, 26), (3, 19), (2, 27), (2, 0), (2, 28), (3, 23), (2, 29), (2, 0), (2, 30), (2, 0), (2, 31), (3, 21)]), (2, 6, [(2, 32), (3, 63), (2, 33), (2, 0), (2, 34), (11, 11), (2, 35), (3, 61), (2, 36), (3, 0), (2, 37), (3, 57), (2, 38), (3, 59), (2, 39), (7, 25), (2, 40), (13, 13), (2, 41), (3, 49), (2, 42), (3, 51), (2, 43), (3, 0), (2, 44), (3, 55), (2, 45), (2, 0), (2, 46), (7, 31), (2, 47), (3, 53), (2, 48), (2, 0), (2, 49), (3, 33), (2, 50), (3, 35), (2, 51), (2, 0), (2, 52), (3, 39), (2, 53), (7, 21), (2, 54), (2, 0), (2, 55), (3, 37), (2, 56), (3, 47), (2, 57), (2, 0), (2, 58), (3, 0), (2, 59), (3, 45), (2, 60), (7, 19), (2, 61), (3, 41), (2, 62), (3, 43), (2, 63), (11, 13)]), (7, 2, [(7, 7), (8, 13), (10, 11), (8, 0), (9, 12), (8, 0), (9, 0), (7, 13), (9, 0), (8, 12), (9, 0), (7, 0), (10, 10), (9, 11), (7, 12), (9, 10), (7, 0), (8, 11), (7, 0), (8, 0), (13, 13), (7, 11), (8, 0), (7, 0), (9, 9), (8, 10), (12, 13), (8, 0), (7, 10), (11, 0), (7, 0), (12, 12), (11, 13), (8, 9), (11, 0), (7, 9), (11, 12), (7, 0), (10, 13), (7, 0), (10, 0), (8, 8), (7, 8), (10, 0), (9, 13), (10, 0), (7, 0), (11, 11), (10, 12)]), (61, 1, [(2, 0)]), (17, 1, [(3, 0)]), (19, 1, [(2, 0)]), (23, 1, [(5, 0)]), (29, 1, [(2, 0)]), (31, 1, [(3, 0)]), (37, 1, [(2, 0)]), (41, 1, [(6, 0)]), (43, 1, [(3, 0)]), (47, 1, [(5, 0)]), (53, 1, [(2, 0)]), (59, 1, [(2, 0)])]
noncomputable def menu : List (Nat × Nat) := yfx.map fun c => (c.1, c.2.1)
noncomputable def zba (p m t b : Nat) : Nat → Nat → List Nat
  | _, 0 => []
  | x, n + 1 => x :: zba p m t b (mul p m t x b) n
noncomputable def lowB (p m t b : Nat) : Bool := ((zba p m t b 1 (p ^ m - 1)).drop 1).contains 1
noncomputable def zeT (p m t b : Nat) : Bool := (List.range b).all (fun c => c == 0 || lowB p m t c) && !lowB p m t b && decide (0 < b) && (List.range (p ^ m)).all (fun y => y == 0 || (zba p m t b 1 (p ^ m - 1)).contains y) && (zba p m t b 1 (p ^ m)).getLast? == some 1 && decide (b < p ^ m)
noncomputable def zd2 (p m t : Nat) (c : Nat × Nat) : Bool := if c.2 = 0 then zeT p m t c.1 else decide (0 < c.1 ∧ c.1 < p ^ m ∧ c.1 < p ^ (m / 2 + 1) ∧ c.2 < p ^ m) && mul p m t c.1 c.2 == 0
noncomputable def zcV (p m : Nat) : Nat → List (Nat × Nat) → Bool
  | _, [] => true
  | t, c :: cs => zd2 p m t c && zcV p m (t + 1) cs
noncomputable def yf9 : Bool := yfx.all fun c => zcV c.1 c.2.1 0 c.2.2
theorem zf1 : yf9 = true := by decide +kernel
theorem ycf {p m t b : Nat} : ∀ (n k i : Nat), i < n → (zba p m t b (pw p m t b k) n)[i]? = some (pw p m t b (k + i))
  | 0, k, i, h => absurd h (Nat.not_lt_zero _)
  | n + 1, k, 0, h => rfl
  | n + 1, k, i + 1, h => by
    show (zba p m t b (pw p m t b (k + 1)) n)[i]? = _
    rw [ycf n (k + 1) i (by omega), show k + 1 + i = k + (i + 1) by omega]
theorem zck {p m t b : Nat} : ∀ (n x : Nat), (zba p m t b x n).length = n
  | 0, x => rfl
  | n + 1, x => by show (zba p m t b _ n).length + 1 = _; rw [zck n]
structure Prim (p m t b : Nat) : Prop where
  lt : b < p ^ m
  round : pw p m t b (p ^ m - 1) = 1
  all : ∀ y, 0 < y → y < p ^ m → ∃ i, i < p ^ m - 1 ∧ pw p m t b i = y
  pos : 0 < b
  min : ∀ i, 0 < i → i < p ^ m - 1 → pw p m t b i ≠ 1
  low : ∀ c, 0 < c → c < b → ∃ i, 0 < i ∧ i < p ^ m - 1 ∧ pw p m t c i = 1
theorem zfh {p m t b : Nat} : lowB p m t b = true ↔ ∃ i, 0 < i ∧ i < p ^ m - 1 ∧ pw p m t b i = 1 := by
  unfold lowB
  rw [List.contains_iff_mem, List.mem_iff_getElem?]
  constructor
  · rintro ⟨j, h⟩
    rw [List.getElem?_drop] at h
    have hl : 1 + j < p ^ m - 1 := by have := (List.getElem?_eq_some_iff.mp h).1; rw [zck] at this; exact this
    have g := ycf (p := p) (m := m) (t := t) (b := b) (p ^ m - 1) 0 (1 + j) hl
    rw [show pw p m t b 0 = 1 from rfl, h] at g
    exact ⟨1 + j, by omega, hl, by simpa using (Option.some.inj g).symm⟩
  · rintro ⟨i, h0, hi, e⟩
    refine ⟨i - 1, ?_⟩
    rw [List.getElem?_drop, show 1 + (i - 1) = i by omega]
    have g := ycf (p := p) (m := m) (t := t) (b := b) (p ^ m - 1) 0 i hi
    rw [show pw p m t b 0 = 1 from rfl, Nat.zero_add, e] at g
    exact g
theorem zcu {p m t b : Nat} (hq : 0 < p ^ m) (h : zeT p m t b = true) : Prim p m t b := by
  unfold zeT at h
  simp only [Bool.and_eq_true] at h
  obtain ⟨⟨⟨⟨⟨k1, k2⟩, k3⟩, h1⟩, h2⟩, h3⟩ := h
  refine ⟨of_decide_eq_true h3, ?_, fun y hy hy2 => ?_, of_decide_eq_true k3, fun i hi hi2 e => ?_, fun c hc hc2 => ?_⟩
  · have e : (zba p m t b 1 (p ^ m)).getLast? = some 1 := by simpa using h2
    rw [List.getLast?_eq_getElem?, zck] at e
    have g := ycf (p := p) (m := m) (t := t) (b := b) (p ^ m) 0 (p ^ m - 1) (by omega)
    rw [show pw p m t b 0 = 1 from rfl] at g
    rw [g] at e
    simpa using Option.some.inj e
  · rw [List.all_eq_true] at h1
    have g := h1 y (List.mem_range.mpr hy2)
    rw [Bool.or_eq_true] at g
    rcases g with g | g
    · have : y = 0 := by simpa using g
      omega
    · have g : y ∈ zba p m t b 1 (p ^ m - 1) := List.contains_iff_mem.mp g
      obtain ⟨i, hi, e⟩ := List.mem_iff_getElem.mp g
      rw [zck] at hi
      have g2 := ycf (p := p) (m := m) (t := t) (b := b) (p ^ m - 1) 0 i hi
      rw [show pw p m t b 0 = 1 from rfl, List.getElem?_eq_getElem (by rw [zck]; exact hi), e] at g2
      exact ⟨i, hi, by simpa using (Option.some.inj g2).symm⟩
  · have := zfh.mpr ⟨i, hi, hi2, e⟩
    rw [this] at k2
    cases k2
  · have g := List.all_eq_true.mp k1 c (List.mem_range.mpr hc2)
    rw [Bool.or_eq_true] at g
    rcases g with g | g
    · have : c = 0 := by simpa using g
      omega
    · exact zfh.mp g
theorem zbS {p m : Nat} : ∀ (cs : List (Nat × Nat)) (t i : Nat) (c : Nat × Nat), zcV p m t cs = true → cs[i]? = some c → zd2 p m (t + i) c = true
  | [], t, i, c, _, h => by simp at h
  | d :: cs, t, 0, c, h, e => by
    have h : (zd2 p m t d && zcV p m (t + 1) cs) = true := h
    rw [Bool.and_eq_true] at h
    cases e
    exact h.1
  | d :: cs, t, i + 1, c, h, e => by
    have h : (zd2 p m t d && zcV p m (t + 1) cs) = true := h
    rw [Bool.and_eq_true] at h
    have g := zbS cs (t + 1) i c h.2 (by simpa using e)
    rw [show t + (i + 1) = t + 1 + i by omega]; exact g
theorem zfc (p t x y : Nat) : mul p 1 t x y = mul p 1 0 x y := rfl
theorem zch (p t x : Nat) : ∀ n, pw p 1 t x n = pw p 1 0 x n
  | 0 => rfl
  | n + 1 => by
    show mul p 1 t (pw p 1 t x n) x = mul p 1 0 (pw p 1 0 x n) x
    rw [zch p t x n, zfc]
structure Good (p m t : Nat) : Prop where
  mem : (p, m) ∈ menu
  top : t < p ^ m
  no : m = 1 ∨ ∀ x y, 0 < x → x < p ^ m → x < p ^ (m / 2 + 1) → 0 < y → y < p ^ m → mul p m t x y ≠ 0
noncomputable def ye2 : Bool := yfx.all fun c => decide (2 ≤ c.1 ∧ 1 ≤ c.2.1 ∧ c.1 ^ c.2.1 ≤ 64) && (if c.2.1 = 1 then decide (c.2.2.length = 1) && c.2.2.all (fun d => d.2 == 0) else decide (c.2.2.length = c.1 ^ c.2.1))
theorem zc7 : ye2 = true := by decide +kernel
theorem ybc {p m : Nat} (h : (p, m) ∈ menu) : 2 ≤ p ∧ 1 ≤ m ∧ p ^ m ≤ 64 := by
  obtain ⟨c, hc, e⟩ := List.mem_map.mp h
  cases e
  have g := List.all_eq_true.mp zc7 c hc
  rw [Bool.and_eq_true] at g
  exact of_decide_eq_true g.1
theorem Good.prim {p m t : Nat} (h : Good p m t) : ∃ b, Prim p m t b := by
  obtain ⟨c, hc, e⟩ := List.mem_map.mp h.mem
  obtain ⟨p', m', cs⟩ := c
  obtain ⟨rfl, rfl⟩ : p' = p ∧ m' = m := by simpa using e
  have hs := ybc h.mem
  have hq : 0 < p' ^ m' := Nat.pow_pos (by omega)
  have g := List.all_eq_true.mp zc7 _ hc
  have a := List.all_eq_true.mp zf1 _ hc
  rw [Bool.and_eq_true] at g
  have g := g.2
  dsimp only at g a
  by_cases h1 : m' = 1
  · subst h1
    rw [if_pos rfl, Bool.and_eq_true] at g
    have hl : cs.length = 1 := of_decide_eq_true g.1
    obtain ⟨c, rfl⟩ : ∃ c, cs = [c] := by
      cases cs with
      | nil => simp at hl
      | cons c r => cases r with
        | nil => exact ⟨c, rfl⟩
        | cons d r => simp at hl
    have a1 := zbS [c] 0 0 c a rfl
    have c0 : c.2 = 0 := by simpa using List.all_eq_true.mp g.2 c (by simp)
    unfold zd2 at a1
    rw [if_pos c0] at a1
    have P := zcu hq a1
    refine ⟨c.1, P.lt, ?_, fun y hy hy2 => ?_, P.pos, fun i h1 h2 => ?_, fun d h1 h2 => ?_⟩
    · rw [zch]; exact P.round
    · obtain ⟨i, hi, e⟩ := P.all y hy hy2
      exact ⟨i, hi, by rw [zch]; exact e⟩
    · rw [zch]; exact P.min i h1 h2
    · obtain ⟨i, a, b, e⟩ := P.low d h1 h2
      exact ⟨i, a, b, by rw [zch]; exact e⟩
  · rw [if_neg h1] at g
    have hl : cs.length = p' ^ m' := of_decide_eq_true g
    have ht : t < cs.length := by rw [hl]; exact h.top
    have a1 := zbS cs 0 t cs[t] a (List.getElem?_eq_getElem ht)
    rw [Nat.zero_add] at a1
    unfold zd2 at a1
    by_cases c0 : cs[t].2 = 0
    · rw [if_pos c0] at a1
      exact ⟨_, zcu hq a1⟩
    · rw [if_neg c0, Bool.and_eq_true] at a1
      have b := of_decide_eq_true a1.1
      rcases h.no with h2 | h2
      · exact absurd h2 h1
      · exact absurd (by simpa using a1.2) (h2 _ _ b.1 b.2.1 b.2.2.1 (by omega) b.2.2.2)
section
variable {p m t : Nat} (G : Good p m t)
include G
theorem Good.hp : 2 ≤ p := (ybc G.mem).1
theorem Good.hm : 1 ≤ m := (ybc G.mem).2.1
theorem Good.hq : p ^ m ≤ 64 := (ybc G.mem).2.2
theorem Good.fermat {x : Nat} (h0 : 0 < x) (hx : x < p ^ m) : pw p m t x (p ^ m - 1) = 1 := by
  obtain ⟨b, P⟩ := G.prim
  obtain ⟨i, _, rfl⟩ := P.all x h0 hx
  rw [← zci G.hp G.hm, Nat.mul_comm, zci G.hp G.hm, P.round, ydE G.hp G.hm]
theorem Good.inj {b : Nat} (P : Prim p m t b) : ∀ i j, i < p ^ m - 1 → j < p ^ m - 1 → pw p m t b i = pw p m t b j → i = j := by
  have key : ∀ i j, i < j → j < p ^ m - 1 → pw p m t b i ≠ pw p m t b j := by
    intro i j hij hj e
    have hp := G.hp
    have hm := G.hm
    have h1 : mul p m t (pw p m t b (p ^ m - 1 - i)) (pw p m t b i) = 1 := by rw [← ybX hp hm, show p ^ m - 1 - i + i = p ^ m - 1 by omega, P.round]
    have h2 : mul p m t (pw p m t b (p ^ m - 1 - i)) (pw p m t b j) = pw p m t b (j - i) := by
      rw [show j = i + (j - i) by omega, ybX hp hm, ← mul_assoc hp hm, h1, one_mul hp hm (ycP hp hm _ _), show i + (j - i) - i = j - i by omega]
    rw [← e, h1] at h2
    exact P.min (j - i) (by omega) (by omega) h2.symm
  intro i j hi hj e
  rcases Nat.lt_trichotomy i j with h | h | h
  · exact absurd e (key i j h hj)
  · exact h
  · exact absurd e.symm (key j i h hi)
theorem Good.pw_mod {x : Nat} (h0 : 0 < x) (hx : x < p ^ m) (n : Nat) : pw p m t x (n % (p ^ m - 1)) = pw p m t x n := by
  have e := Nat.div_add_mod n (p ^ m - 1)
  have g : pw p m t x n = mul p m t (pw p m t x ((p ^ m - 1) * (n / (p ^ m - 1)))) (pw p m t x (n % (p ^ m - 1))) := by rw [← ybX G.hp G.hm, e]
  rw [g, zci G.hp G.hm, G.fermat h0 hx, ydE G.hp G.hm, one_mul G.hp G.hm (ycP G.hp G.hm _ _)]
end
end Dg
end
section
-- text: MathD
set_option linter.all false
namespace Dg
section
variable {p m t : Nat} (hp : 2 ≤ p) (hm : 1 ≤ m)
include hp hm
end
section
variable {p m t : Nat} (hp : 2 ≤ p) (hm : 1 ≤ m)
include hp hm
end
end Dg
end
section
-- text: MathE
set_option linter.all false
namespace Dg
section
variable {p m t : Nat} (hp : 2 ≤ p) (hm : 1 ≤ m)
include hp hm
end
end Dg
end
section
-- text: MathF
set_option Elab.async false
set_option linter.all false
set_option maxRecDepth 100000
set_option maxHeartbeats 4000000
namespace Dg
section
variable {p m t : Nat} (G : Good p m t)
include G
end
end Dg
end
section
-- text: ExtRd
set_option Elab.async false
set_option linter.all false
set_option maxRecDepth 100000
namespace L2
open PySem PySem.Spec PyProof.Rows
section
variable {X : Cx}
end
end L2
end
section
-- text: ExtRh
set_option Elab.async false
set_option linter.all false
set_option maxRecDepth 100000
set_option maxHeartbeats 4000000
namespace L2
open PySem PySem.Spec PyProof.Rows
section
variable {M : Model} {A : Around} {E : Value → Shared → Prop} {s : Shared}
end
section
variable {P : Program} {w : World} {K : PySem.W.Frag} {mg : Str → Option Value} {base : Heap} {N : List Str} {qual : Str} {scope : Scope} {f : Addr} {cd : Value} {A : Around} {outer : List Env} {s₀ : Shared} {H₀ : Hp} {E : XK}
end
end L2
end
section
-- text: ExtRi
set_option Elab.async false
set_option linter.all false
set_option maxRecDepth 100000
set_option maxHeartbeats 4000000
namespace L2
open PySem PySem.Spec PyProof.Rows
section
variable {P : Program} {w : World} {K : PySem.W.Frag} {mg : Str → Option Value} {base : Heap} {N : List Str} {qual : Str} {scope : Scope} {f : Addr} {cd : Value} {A : Around} {outer : List Env} {s₀ : Shared} {H₀ : Hp} {E : XK}
end
section
variable {P : Program} {w : World} {K : PySem.W.Frag} {mg : Str → Option Value} {base : Heap} {N : List Str} {qual : Str} {scope : Scope} {f : Addr} {cd : Value} {A : Around} {outer : List Env} {s₀ : Shared} {H₀ : Hp} {E : XK}
end
section
variable {X : Cx} {pins pins' : List (Addr × Obj)} {σ : St} {H : Hp} {s : Shared} {F : Addr → St → Hp → Prop} {a : Addr}
end
end L2
end
section
-- text: ExtRj
set_option Elab.async false
set_option linter.all false
set_option maxRecDepth 100000
set_option maxHeartbeats 4000000
namespace L2
open PySem PySem.Spec PyProof.Rows PySem.W
section
variable {prog : Program} {w : World} {A : Around} {E : Value → Shared → Prop} {s : Shared} {K : Frag} {e C : Addr}
end
end L2
namespace L2
open PySem PySem.Spec PyProof.Rows PySem.W
section
variable {K : Frag} {mg : Str → Option Value} {Re By Nr Tm Nt Nl : Addr}
end
end L2
namespace L2
open PySem PySem.Spec PyProof.Rows
section
variable {X : Cx}
end
end L2
namespace L2
open PySem PySem.Spec PyProof.Rows
end L2
namespace L2
open PySem PySem.Spec PyProof.Rows
section
variable {X : Cx} {o e : Expr} {es : List Expr} {to : TE} {t : TA} {name : Str} {apos cpos : Pos} {T : String} {id : String} {r : V → List V → Hp → VK → Prop} {K : PySem.W.Frag}
end
end L2
end
section
-- text: ExtRk
set_option Elab.async false
set_option linter.all false
set_option maxRecDepth 100000
set_option maxHeartbeats 4000000
namespace L2
open PySem PySem.Spec PyProof.Rows
section
variable {X : Cx}
end
end L2
namespace L2
open PySem PySem.Spec PyProof.Rows
section
variable {X : Cx}
end
end L2
end
section
-- text: ExtRl
set_option Elab.async false
set_option linter.all false
set_option maxRecDepth 100000
set_option maxHeartbeats 4000000
namespace L2
open PySem PySem.Spec PyProof.Rows
section
variable {X : Cx}
end
end L2
namespace L2
open PySem PySem.Spec PyProof.Rows
section
variable {X : Cx}
end
end L2
namespace L2
open PySem PySem.Spec PyProof.Rows PySem.W
section
variable {K : Frag} {mg : Str → Option Value} {Re By Nr Tm : Addr}
end
end L2
end
section
-- text: ExtRm
set_option Elab.async false
set_option linter.all false
set_option maxRecDepth 100000
set_option maxHeartbeats 4000000
namespace L2
open PySem PySem.Spec PyProof.Rows
section
variable {M : Model} {A : Around} {E : Value → Shared → Prop} {s : Shared}
end
section
variable {X : Cx}
end
end L2
namespace L2
open PySem PySem.Spec PyProof.Rows
noncomputable def cscB (M : List Str) (sc : Scope) (tg cp : List Str) (ci : List Nat) (scope : Scope) : Bool :=
  scope.kind == .function && (scope.names.all fun x => x.2 != .local || scope.names.lookup x.1 == some .local) &&
  (scope.names.all fun x => x.2 != .free || sc.names.lookup x.1 == some .cell || sc.names.lookup x.1 == some .free) &&
  (cp.all fun x => scope.names.lookup x == some .free) && decide (ci.map (M[·]?) = cp.map some) && decide (tg ++ cp).Nodup
theorem CSc.of_b {M : List Str} {sc : Scope} {tg cp : List Str} {ci : List Nat} {scope : Scope} (h : (cscB M sc tg cp ci scope && scope.names.all fun x => x.2 != .cell) = true) : CSc M sc tg cp ci scope := by
  simp only [cscB, Bool.and_eq_true, List.all_eq_true, Bool.or_eq_true, bne_iff_ne, beq_iff_eq, decide_eq_true_eq] at h
  obtain ⟨⟨⟨⟨⟨⟨h1, h2⟩, h3⟩, h4⟩, h5⟩, h6⟩, h7⟩ := h
  exact ⟨h1, h7, fun x hx e => (h2 x hx).resolve_left (fun n => n e), fun x hx e => ((h3 x hx).imp_left fun z => z.resolve_left fun n => n e), h4, h5, h6⟩
end L2
end
section
-- text: ExtRn
set_option Elab.async false
set_option linter.all false
set_option maxRecDepth 100000
set_option maxHeartbeats 4000000
namespace L2
open PySem PySem.Spec PyProof.Rows
section
variable {X : Cx}
end
end L2
end
section
-- text: ExtRo
set_option Elab.async false
set_option linter.all false
set_option maxRecDepth 100000
set_option maxHeartbeats 4000000
namespace L2
open PySem PySem.Spec PyProof.Rows
theorem zds (elt t1 i1 t2 i2 : Expr) (scope : Scope) (pos : Pos) (it acc : Value) (env : Env) :
    compTurn (.ListComp elt [⟨t1, i1, [], 0⟩, ⟨t2, i2, [], 0⟩] scope pos) 0 it acc env = (standAt i1.pos >>= fun _ => pyNext it >>= fun r => match r with
      | none => pure (.done .next)
      | some v => letOwnedTupleGo t1 it v >>= fun _ => assign t1 env v >>= fun _ =>
        (eval i2 env >>= fun x => standAt i2.pos >>= fun _ => foldedSetIterable i2 env x >>= fun x => holding [x] (pyIter x) >>= fun it2 =>
          runOwn (.compStart (.ListComp elt [⟨t1, i1, [], 0⟩, ⟨t2, i2, [], 0⟩] scope pos) 1 it2 acc env) env >>= fun _ =>
          again (.compLoop (.ListComp elt [⟨t1, i1, [], 0⟩, ⟨t2, i2, [], 0⟩] scope pos) 0 it acc env))) := by rfl
theorem ydl (elt t1 i1 t2 i2 : Expr) (scope : Scope) (pos : Pos) (it acc : Value) (env : Env) :
    compTurn (.ListComp elt [⟨t1, i1, [], 0⟩, ⟨t2, i2, [], 0⟩] scope pos) 1 it acc env = (standAt i2.pos >>= fun _ => pyNext it >>= fun r => match r with
      | none => pure (.done .next)
      | some v => letOwnedTupleGo t2 it v >>= fun _ => assign t2 env v >>= fun _ =>
        (eval elt env >>= fun x => call (.builtin "list.append") [acc, x] >>= fun _ => pure ()) >>= fun _ =>
          again (.compLoop (.ListComp elt [⟨t1, i1, [], 0⟩, ⟨t2, i2, [], 0⟩] scope pos) 1 it acc env)) := by rfl
section
variable {prog : Program} {w : World} {A : Around} {R : Result → Shared → Prop} {s : Shared}
theorem zbG {elt t1 i1 t2 i2 scope pos it acc env}
    (h0 : codeAny (model prog w) A (.compLoop (.ListComp elt [⟨t1, i1, [], 0⟩, ⟨t2, i2, [], 0⟩] scope pos) 1 it acc env) R s)
    (h : wpAny (model prog w) A (pyIter it) (fun it' s' => codeAny (model prog w) A (.compLoop (.ListComp elt [⟨t1, i1, [], 0⟩, ⟨t2, i2, [], 0⟩] scope pos) 1 it' acc env) R s')
      (notedBy (model prog w) A env fun x s' => R (.error x) s') s) :
    codeAny (model prog w) A (.compStart (.ListComp elt [⟨t1, i1, [], 0⟩, ⟨t2, i2, [], 0⟩] scope pos) 1 it acc env) R s := by
  refine codeAny_of_tree ?_
  show wpAny _ _ ((compStart (.ListComp elt [⟨t1, i1, [], 0⟩, ⟨t2, i2, [], 0⟩] scope pos) 1 it acc env).onRaise (fun x => do noteFrame x env; standAt theWindowsPlace)) _ _ s
  refine wpAny_notedAt ?_
  unfold compStart
  show wpAny _ _ (ask >>= _) _ _ s
  refine wpAny_bind (wpAny_askSetting (wpAny_ite ?_))
  split
  · first
      | exact wpAny_bind (wpAny_pure (wpAny_pure (And.intro rfl h0)))
      | exact wpAny_pure (And.intro rfl h0)
  · first
      | exact wpAny_bind (wpAny_rule (wpAny_bind (wpAny_standAt (wpAny_bind (wpAny_mono h (fun it' s' h' => wpAny_pure (And.intro rfl h')) fun _ _ x => x)))))
      | (refine wpAny_bind (wpAny_rule ?_); show wpAny _ _ (standAt i2.pos >>= _) _ _ s; exact wpAny_bind (wpAny_standAt (wpAny_bind (wpAny_mono h (fun it' s' h' => wpAny_pure (And.intro rfl h')) fun _ _ x => x))))
theorem ydv {elt t1 i1 t2 i2 : Expr} {scope : Scope} {pos : Pos} {it acc : Value} {env : Env} (I : Nat → Shared → Prop)
    (turn : ∀ n s, I n s → wpAny (model prog w) A (pyNext it) (fun r s₁ => match r with
      | none => R (.ok .next) s₁
      | some v => wpAny (model prog w) A (letOwnedTupleGo t2 it v) (fun _ s₁' => wpAny (model prog w) A (assign t2 env v) (fun _ s₂ =>
          wpAny (model prog w) A (eval elt env) (fun x s₄ =>
            wpAny (model prog w) A (call (.builtin "list.append") [acc, x]) (fun _ s₅ => ∃ m, m < n ∧ I m s₅) (fun _ _ => False) s₄) (fun _ _ => False) s₂) (fun _ _ => False) s₁') (fun _ _ => False) s₁) (fun _ _ => False) s)
    (n : Nat) (h : I n s) : codeAny (model prog w) A (.compLoop (.ListComp elt [⟨t1, i1, [], 0⟩, ⟨t2, i2, [], 0⟩] scope pos) 1 it acc env) R s := by
  refine codeAny_loop rfl I (fun n s hI => ?_) n h
  show wpAny _ A ((compTurn (.ListComp elt [⟨t1, i1, [], 0⟩, ⟨t2, i2, [], 0⟩] scope pos) 1 it acc env).onRaise (fun x => do noteFrame x env; theTreesLotGoes x)) _ _ s
  refine wpAny_noted (wpAny_noRaise ?_)
  rw [ydl]
  refine wpAny_bind (wpAny_standAt (wpAny_bind (wpAny_mono (turn n s hI) (fun r s₁ h₁ => ?_) fun _ _ h' => h')))
  cases r with
  | none => exact wpAny_pure h₁
  | some v =>
    refine wpAny_bind (wpAny_mono h₁ (fun _ s₁' h₁' => ?_) fun _ _ h' => h')
    refine wpAny_bind (wpAny_mono h₁' (fun _ s₂ h₂ => ?_) fun _ _ h' => h')
    exact wpAny_bind (wpAny_bind (wpAny_mono h₂ (fun x s₄ h₄ => wpAny_bind (wpAny_mono h₄ (fun _ s₅ h₅ => wpAny_pure (wpAny_pure ⟨rfl, h₅⟩)) fun _ _ h' => h')) fun _ _ h' => h'))
theorem zdq {elt t1 i1 t2 i2 : Expr} {scope : Scope} {pos : Pos} {it acc : Value} {env : Env} (I : Nat → Shared → Prop)
    (turn : ∀ n s, I n s → wpAny (model prog w) A (pyNext it) (fun r s₁ => match r with
      | none => R (.ok .next) s₁
      | some v => wpAny (model prog w) A (letOwnedTupleGo t1 it v) (fun _ s₁' => wpAny (model prog w) A (assign t1 env v) (fun _ s₂ =>
          wpAny (model prog w) A (eval i2 env) (fun x s₃ => wpAny (model prog w) A (pyIter x) (fun it2 s₄ =>
            codeAny (model prog w) A (.compStart (.ListComp elt [⟨t1, i1, [], 0⟩, ⟨t2, i2, [], 0⟩] scope pos) 1 it2 acc env) (fun r s₅ => r = .ok .next ∧ ∃ m, m < n ∧ I m s₅) s₄) (fun _ _ => False) s₃) (fun _ _ => False) s₂) (fun _ _ => False) s₁') (fun _ _ => False) s₁) (fun _ _ => False) s)
    (n : Nat) (h : I n s) (hs : ∀ x, foldedSetIterable i2 env x = pure x) : codeAny (model prog w) A (.compLoop (.ListComp elt [⟨t1, i1, [], 0⟩, ⟨t2, i2, [], 0⟩] scope pos) 0 it acc env) R s := by
  refine codeAny_loop rfl I (fun n s hI => ?_) n h
  show wpAny _ A ((compTurn (.ListComp elt [⟨t1, i1, [], 0⟩, ⟨t2, i2, [], 0⟩] scope pos) 0 it acc env).onRaise (fun x => do noteFrame x env; theTreesLotGoes x)) _ _ s
  refine wpAny_noted (wpAny_noRaise ?_)
  rw [zds]
  refine wpAny_bind (wpAny_standAt (wpAny_bind (wpAny_mono (turn n s hI) (fun r s₁ h₁ => ?_) fun _ _ h' => h')))
  cases r with
  | none => exact wpAny_pure h₁
  | some v =>
    refine wpAny_bind (wpAny_mono h₁ (fun _ s₁' h₁' => ?_) fun _ _ h' => h')
    refine wpAny_bind (wpAny_mono h₁' (fun _ s₂ h₂ => ?_) fun _ _ h' => h')
    refine wpAny_bind (wpAny_mono h₂ (fun x s₃ h₃ => ?_) fun _ _ h' => h')
    refine wpAny_bind (wpAny_standAt (wpAny_bind (wpAny_of_eq (hs x) (wpAny_bind (wpAny_holding (wpAny_mono h₃ (fun it2 s₄ h₄ => ?_) fun _ _ h' => h'))))))
    refine wpAny_bind (wpAny_runOwn (codeAny_mono h₄ fun r s₅ h₅ => ?_))
    obtain ⟨rfl, h₅⟩ := h₅
    exact wpAny_pure ⟨rfl, h₅⟩
end
noncomputable def tIn (wi2 : TI) (g2 : TG) (te : TE) (acc : List V) (N : List V → Hp → Prop) : St → Hp → Prop := fun σ H => wi2 σ H fun J H1 => ∃ W : Nat → Nat → St → List V → Hp → Prop, (∃ m, W 0 m σ acc H1) ∧ ∀ i m σ acc H, W i m σ acc H →
  (J.stop i H ∧ N acc H) ∨
  (J.go i H ∧ acc.length < sizeLine ∧ ∃ N2 : St → List V → Hp → Prop, (∀ σ' acc' H', N2 σ' acc' H' → ∃ m', m' < m ∧ W (i + 1) m' σ' acc' H') ∧ ∀ x H', J.yld i H x H' → g2 x σ H' fun σ2 H2 => te σ2 H2 fun v H3 => N2 σ2 (acc ++ [v]) H3)
noncomputable def zff (wi : TI) (k : Nat) (ci : List Nat) (g : TG) (wi2 : TI) (g2 : TG) (te : TE) : TE := fun σ H Q => wi σ H fun J H1 => ∃ W : yeU, (∃ m, W 0 m [] H1) ∧ ∀ i m acc H, W i m acc H →
  (J.stop i H ∧ ∀ D, H D = none → Q (.ref D) (upd H D (.lst acc))) ∨
  (J.go i H ∧ ∃ N : List V → Hp → Prop, (∀ acc' H', N acc' H' → ∃ m', m' < m ∧ W (i + 1) m' acc' H') ∧ ∀ x H', J.yld i H x H' → g x (capσ k ci σ) H' fun σ2 H2 => tIn wi2 g2 te acc N σ2 H2)
section
variable {X : Cx}
theorem yfO {elt t1 i1 t2 i2 : Expr} {scope : Scope} {pos : Pos} {wi2 : TI} {g2 : TG} {te : TE} {pins : List (Addr × Obj)} {s : Shared} {σ : St} {H : Hp} {D : Addr} {vs : List V} {us : List Value} {k : Nat} {N : List V → Hp → Prop}
    (hxe : X.xe = fun _ _ => False) (hcalm : X.calm = true) (hi : PI X t2 i2 wi2) (hg : PG X t2 g2) (he : PE X elt te)
    (hDC : D ≠ X.env.locals) (hDfs : D ∉ X.fs) (hDcell : ∀ x c, X.env.cells.lookup x = some c → c ≠ D) (hDge : X.s₀.heap.objs.size ≤ D) (hDp : ∀ p ∈ X.pn ++ pins, p.1 ≠ D)
    (I : Inv X pins σ H s) (fD : H D = none) (eD : s.heap.get? D = some { cls := .type "list", data := .seq us.toArray k }) (rv : Vals vs us) (z : vs.length ≤ sizeLine) (h : tIn wi2 g2 te vs N σ H) :
    wpAny (model X.prog X.w) X.A (eval i2 X.env) (fun v s1 => wpAny (model X.prog X.w) X.A (pyIter v) (fun itv s2 =>
      codeAny (model X.prog X.w) X.A (.compStart (.ListComp elt [⟨t1, i1, [], 0⟩, ⟨t2, i2, [], 0⟩] scope pos) 1 itv (.ref D) X.env)
        (fun r s' => r = .ok .next ∧ ∃ σ' vs' us' k' H', Inv X pins σ' H' s' ∧ H' D = none ∧ s'.heap.get? D = some { cls := .type "list", data := .seq us'.toArray k' } ∧ Vals vs' us' ∧ vs'.length ≤ sizeLine ∧ N vs' H') s2) (fun _ _ => False) s1) (fun _ _ => False) s := by
  let pD : List Value → Nat → List (Addr × Obj) := fun us k => [(D, { cls := .type "list", data := .seq us.toArray k })]
  have memD : ∀ {us k}, (D, ({ cls := .type "list", data := .seq us.toArray k } : Obj)) ∈ X.pn ++ (pins ++ pD us k) := fun {us k} => List.mem_append_right _ (List.mem_append_right _ List.mem_cons_self)
  have pinD : ∀ {σ' : St} {H' : Hp} {s' : Shared} {us : List Value} {k : Nat}, Inv X pins σ' H' s' → H' D = none → s'.heap.get? D = some { cls := .type "list", data := .seq us.toArray k } → Inv X (pins ++ pD us k) σ' H' s' := fun {σ' H' s' us k} J f e =>
    J.pins_of fun p hp => (List.mem_append.mp hp).elim (fun z => J.pin p (List.mem_append_right _ z)) fun z => by
      have : p = (D, { cls := .type "list", data := .seq us.toArray k }) := by simpa [pD] using z
      subst this
      exact ⟨e, f, hDC, hDfs, fun v z => by cases z⟩
  have hi2 := hi (pins ++ pD us k) s σ H _ (pinD I fD eD) h
  rw [hxe] at hi2
  refine thn hi2 fun v s1 h1 => thn h1 fun itv s2 h2 => ?_
  obtain ⟨it, fp, tn, J, H2, e, I2, T, st2, f2, W, ⟨m0, w0⟩, turn⟩ := h2
  subst e
  have hDfp : ∀ b ∈ fp, b ≠ D := fun b hb zz => (f2 b hb).2.2.2.2.2 _ memD zz.symm
  have stat : ∀ {H' : Hp} {us : List Value} {k : Nat}, (∀ b ∈ fp, H' b = none) → ∀ b ∈ fp, FpOk X (pins ++ pD us k) H' b := fun {H' us k} hn b hb => by
    obtain ⟨_, a2, a3, a4, a5, a6⟩ := f2 b hb
    refine ⟨hn b hb, a2, a3, a4, a5, fun p hp => ?_⟩
    rcases List.mem_append.mp hp with zz | zz
    · exact a6 p (List.mem_append_left _ zz)
    · rcases List.mem_append.mp zz with zz | zz
      · exact a6 p (List.mem_append_right _ (List.mem_append_left _ zz))
      · have : p = (D, { cls := .type "list", data := .seq us.toArray k }) := by simpa [pD] using zz
        subst this
        exact fun q => hDfp b hb q.symm
  have loop : codeAny (model X.prog X.w) X.A (.compLoop (.ListComp elt [⟨t1, i1, [], 0⟩, ⟨t2, i2, [], 0⟩] scope pos) 1 (.ref it) (.ref D) X.env)
      (fun r s' => r = .ok .next ∧ ∃ σ' vs' us' k' H', Inv X pins σ' H' s' ∧ H' D = none ∧ s'.heap.get? D = some { cls := .type "list", data := .seq us'.toArray k' } ∧ Vals vs' us' ∧ vs'.length ≤ sizeLine ∧ N vs' H') s2 := by
    refine ydv (fun n s' => ∃ i σ' vs us k H', Inv X pins σ' H' s' ∧ tn i s'.heap ∧ (∀ b ∈ fp, H' b = none) ∧ H' D = none ∧ s'.heap.get? D = some { cls := .type "list", data := .seq us.toArray k } ∧ Vals vs us ∧ vs.length ≤ sizeLine ∧ W i n σ' vs H') ?_ m0
      ⟨0, σ, vs, us, k, H2, I2.unpinned, st2, fun b hb => (f2 b hb).1, (I2.pin _ memD).2.1, (I2.pin _ memD).1, rv, z, w0⟩
    rintro n s3 ⟨i, σ3, vs3, us3, k3, H3, I3, st3, fr3, fD3, e3, rv3, z3, w3⟩
    rcases turn i n σ3 vs3 H3 w3 with ⟨stop, qn⟩ | ⟨go, zl, N2, hN, step⟩
    · refine thn (T.done X rfl rfl rfl hcalm i (pins ++ pD us3 k3) s3 σ3 H3 _ (pinD I3 fD3 e3) (stat fr3) st3 stop) fun r s4 ⟨hr, I4⟩ => ?_
      subst hr
      exact ⟨rfl, σ3, vs3, us3, k3, H3, I4.unpinned, fD3, (I4.pin _ memD).1, rv3, z3, qn⟩
    · refine thn (T.item X rfl rfl rfl hcalm i (pins ++ pD us3 k3) s3 σ3 H3 _ (pinD I3 fD3 e3) (stat fr3) st3 go) fun r s4 ⟨u, hr, h4⟩ => ?_
      subst hr
      refine thn h4 fun _ s5 ⟨x, H5, I5, r5, y5, st5, fr5⟩ => ?_
      have I5' := I5.pinned (stat fr5) (T.obj _ _ st5)
      have hgg := hg _ s5 σ3 H5 x u _ I5' r5 (step x H5 y5)
      rw [hxe] at hgg
      refine thn hgg fun _ s6 ⟨σ6, H6, I6, q6⟩ => ?_
      have hee := he _ s6 σ6 H6 _ I6 q6
      rw [hxe] at hee
      refine thn hee fun y s8 ⟨yv, H8, I8, r8, q8⟩ => ?_
      obtain ⟨m', hm, w8⟩ := hN _ _ _ q8
      have e8 := I8.unpinned.pin _ memD
      have pb : ∀ b ∈ fp, ∀ o, s5.heap.get? b = some o → s8.heap.get? b = some o ∧ H8 b = none := fun b hb o e => by
        have := I8.pin (b, o) (List.mem_append_right _ (List.mem_append_right _ (zaW hb e)))
        exact ⟨this.1, this.2.1⟩
      refine call_meets F.slot_list_append ⟨_, e8.1, rfl⟩ F.entry_list_append (F.args_list_append_2 _ _) (PySem.list_append D us3.toArray k3 y (by rw [List.size_toArray, ← rv3.length]; exact z3)) ⟨e8.1, ?_⟩
      have q := PySem.IsL.update e8.1 (·.push y)
      have J0 : Inv X pins σ6 H8 s8 := I8.unpinned.unpinned
      refine ⟨m', hm, i + 1, σ6, vs3 ++ [yv], us3 ++ [y], _, H8, J0.turned (it := D) (t' := s8.toks) (fun b o hb hu => (Heap.get?_update_other s8.heap _ (Ne.symm hb)).trans hu) e8.2.1 hDC (.inr hDge) hDcell hDp, ?_, ?_, e8.2.1, by simpa using q, rv3.append (.cons r8 .nil), by simp; omega, w8⟩
      · exact T.keep _ _ _ st5 fun b hb o e => (Heap.get?_update_other s8.heap _ (fun zz => hDfp b hb zz.symm)).trans (pb b hb o e).1
      · intro b hb
        obtain ⟨o, e, _⟩ := T.obj _ _ st5 b hb
        exact (pb b hb o e).2
  exact zbG loop (T.self X.A 0 _ _ _ st2 loop)
theorem yeM {elt target iter t2 i2 : Expr} {scope : Scope} {pos : Pos} {tg cp : List Str} {ci : List Nat} {wi wi2 : TI} {g g2 : TG} {te : TE}
    {pins : List (Addr × Obj)} {s : Shared} {σ : St} {H : Hp} {Q : VK} {cl : List (Str × Addr)}
    (S : CSc X.N X.env.scope tg cp ci scope) (hcalm : X.calm = true) (hi : PI X target iter wi)
    (hcl1 : ∀ n c, cl.lookup n = some c → X.env.cells.lookup n = some c) (hcl2 : ∀ n, (n, NameKind.free) ∈ scope.names → ∃ c, cl.lookup n = some c)
    (hg : ∀ C fp s H, PG (cxC X (tg ++ cp) scope cl C fp s H) target g) (hi2 : ∀ C fp s H, PI (cxC X (tg ++ cp) scope cl C fp s H) t2 i2 wi2) (hg2 : ∀ C fp s H, PG (cxC X (tg ++ cp) scope cl C fp s H) t2 g2) (he : ∀ C fp s H, PE (cxC X (tg ++ cp) scope cl C fp s H) elt te)
    (hs2 : ∀ env x, foldedSetIterable i2 env x = pure x) (I : Inv X pins σ H s) (h : zff wi tg.length ci g wi2 g2 te σ H Q) :
    wpAny (model X.prog X.w) X.A (eval iter X.env) (fun x s₁ => wpAny (model X.prog X.w) X.A (pyIter x) (fun it s₂ => wpAny (model X.prog X.w) X.A (newList []) (fun acc s₃ =>
      wpAny (model X.prog X.w) X.A (newFunctionEnv scope X.env.globals cl [] X.env.qual none .none (some X.env)) (fun cenv s₄ =>
        codeAny (model X.prog X.w) X.A (.compStart (.ListComp elt [⟨target, iter, [], 0⟩, ⟨t2, i2, [], 0⟩] scope pos) 0 it acc { cenv with scope := relabel scope X.env })
          (fun r s' => ∃ D vs H', acc = .ref D ∧ r = .ok .next ∧ Inv X pins σ (upd H' D (.lst vs)) s' ∧ H' D = none ∧ Gone X pins (upd H' D (.lst vs)) s' cenv.locals ∧ ∀ D', H' D' = none → Q (.ref D') (upd H' D' (.lst vs))) s₄) X.xe s₃) X.xe s₂) X.xe s₁) X.xe s := by
  refine thn (hi pins s σ H _ I h) fun v s1 h1 => thn h1 fun itv s2 h2 => ?_
  obtain ⟨it, fp, tn, J, H2, e, I2, T, st2, f2, W, ⟨m0, w0⟩, turn⟩ := h2
  subst e
  refine wpAny_newObj_type (wpAny_newFunctionEnv S.nocell (by intro y hy; simp at hy) (fun h₁ hns₁ hsb₁ => ?_) S.kind)
  dsimp only at hns₁ hsb₁ ⊢
  generalize hHL : s2.heap.push { cls := .type "list", dict := none, data := .seq ([] : List Value).toArray } = HL at hns₁ hsb₁ ⊢
  have hC : HL.objs.size = s2.heap.objs.size + 1 := by rw [← hHL, Heap.size_push]
  generalize hD : s2.heap.objs.size = D at hC ⊢
  generalize hCC : HL.objs.size = C at hns₁ hsb₁ hC ⊢
  have hDC : D ≠ C := by omega
  have old : ∀ b o, s2.heap.get? b = some o → h₁.get? b = some o := fun b o e => by
    have lt : s2.heap.objs.size ≥ Nat.succ b := Heap.lt_size e
    refine hsb₁.extBut b o (show @Ne Nat b C by omega) (Heap.get?_push_of_some _ (hHL ▸ Heap.get?_push_of_some _ e))
  have hD1 : h₁.get? D = some { cls := .type "list", data := .seq ([] : List Value).toArray 0 } := by
    refine hsb₁.extBut D _ hDC (Heap.get?_push_of_some _ ?_)
    rw [← hHL, ← hD]
    exact Heap.get?_push_size _ rfl
  have fD : H2 D = none := I2.hok.fresh (by omega)
  have fC : H2 C = none := I2.hok.fresh (by omega)
  let X' : Cx := cxC X (tg ++ cp) scope cl C fp s2 H2
  have ok' : X'.Ok := by
    refine ⟨I2.ok.mod, ?_, I2.ok.glob, I2.ok.blt, ?_, ?_, ?_, ?_, I2.ok.hd, I2.ok.frames, .inl rfl, ?_, I2.bs, Nat.le_trans I2.ok.bsz I2.sz, ?_, ?_, I2.stack, I2.stkFree⟩
    · exact S.kind
    · show s2.heap.objs.size ≤ C; omega
    · intro x y c hx hy; exact I2.ok.inj x y c (hcl1 x c hx) (hcl1 y c hy)
    · intro x hx
      have hx' : (relabel scope X.env).names.lookup x = some .cell ∨ (relabel scope X.env).names.lookup x = some .free := hx
      have q : scope.names.lookup x = some .free ∨ scope.names.lookup x = some .cell := by
        rcases hx' with z | z
        · exact yaD z (.inl rfl)
        · exact yaD z (.inr rfl)
      rcases q with q | q
      · exact hcl2 x (yaH q)
      · exact absurd rfl (S.nocell _ (yaH q))
    · intro x c hx; cases hx
    · intro b hb
      obtain ⟨o, eo, _⟩ := T.obj _ _ st2 b hb
      have lt : s2.heap.objs.size ≥ Nat.succ b := Heap.lt_size eo
      exact ⟨by show @Ne Nat b C; omega, fun x c hx => (f2 b hb).2.2.2.2.1 x c (hcl1 x c hx)⟩
    · intro b o e hb
      rcases (f2 b hb).2.2.2.1 with z | z
      · exact I2.ok.noex b o e z
      · have l1 : X.base.objs.size ≥ Nat.succ b := Heap.lt_size e
        have l2 : X.base.objs.size ≤ X.s₀.heap.objs.size := I2.ok.bsz
        have l3 : X.s₀.heap.objs.size ≤ (b : Nat) := z
        omega
    · intro b hb hbs
      rcases List.mem_cons.mp (I2.stkSub b hbs) with z | z
      · exact (f2 b hb).2.1 z
      · exact (f2 b hb).2.2.1 z
  have capLen : (capσ tg.length ci σ).length = X'.N.length := by
    show (List.replicate tg.length none ++ ci.map fun i => (σ[i]?).join).length = (tg ++ cp).length
    have := congrArg List.length S.at_
    simp only [List.length_map] at this
    simp [this]
  have capLook : ∀ (h' : Heap) (m' : Str → Option Value), (∀ x c o, X.env.cells.lookup x = some c → s2.heap.get? c = some o → ∃ sl, h'.get? c = some { o with slots := sl }) →
      ∀ (i : Nat) (x : Str) (v : V), X'.N[i]? = some x → (capσ tg.length ci σ)[i]? = some (some v) → Vis X'.env.scope x → ∃ u, RelV v u ∧ Look X'.env h' m' x u := by
    intro h' m' hcell i x v e1 e2 e3
    have e1' : (tg ++ cp)[i]? = some x := e1
    have e2' : (List.replicate tg.length none ++ ci.map fun i => (σ[i]?).join)[i]? = some (some v) := e2
    by_cases hi' : i < tg.length
    · rw [List.getElem?_append_left (by simpa using hi'), List.getElem?_replicate] at e2'
      split at e2' <;> cases e2'
    · rw [List.getElem?_append_right (by simpa using hi'), List.length_replicate, List.getElem?_map] at e2'
      rw [List.getElem?_append_right (by omega)] at e1'
      cases hj : ci[i - tg.length]? with
      | none => rw [hj] at e2'; cases e2'
      | some j =>
        rw [hj] at e2'
        have e2'' : (σ[j]?).join = some v := Option.some.inj e2'
        have e4 : σ[j]? = some (some v) := by
          cases q : σ[j]? with
          | none => rw [q] at e2''; cases e2''
          | some z => rw [q] at e2''; exact congrArg some e2''
        have e5 : X.N[j]? = some x := by
          have := congrArg (·[i - tg.length]?) S.at_
          simp only [List.getElem?_map, hj, e1', Option.map_some] at this
          exact Option.some.inj this
        have hx : scope.names.lookup x = some .free := S.cap x (List.mem_of_getElem? e1')
        have hk := S.free (x, .free) (yaH hx) rfl
        obtain ⟨m, hn, hl⟩ := I2.loc
        obtain ⟨u, r, l⟩ := hl j x v e5 e4 (.inr hk)
        refine ⟨u, r, .inr ⟨?_, ?_⟩⟩
        · exact ybu hx
        · rcases l with ⟨k1, _⟩ | ⟨_, c, k2, k3⟩
          · have k1' : X.env.scope.names.lookup x = some .local := k1
            rcases hk with z | z <;> (rw [z] at k1'; cases k1')
          · obtain ⟨c', hc'⟩ := hcl2 x (yaH hx)
            have := hcl1 x c' hc'
            rw [k2] at this; cases this
            obtain ⟨o, ho, hd⟩ := k3
            obtain ⟨sl, q⟩ := hcell x c o k2 ho
            exact ⟨c, hc', _, q, hd⟩
  have I' : ∀ tk, Inv X' [] (capσ tg.length ci σ) H2 { s2 with heap := h₁, toks := tk } := fun tk => by
    refine ⟨ok', rfl, I2.bare, Un.kept old, ⟨_, hns₁, capLook _ _ fun x c o _ e => ⟨o.slots, old c o e⟩⟩, fun x c hx => ?_, fC, fun x c hx => I2.freeC x c (hcl1 x c hx), fun p hp => absurd (show p ∈ ([] : List (Addr × Obj)) from hp) (by simp), I2.hok.kept old, ?_⟩
    · obtain ⟨v, o, ho, hd⟩ := I2.cell x c (hcl1 x c hx)
      exact ⟨v, o, old c o ho, hd⟩
    · exact capLen
  have recap : ∀ {pl pl' : List (Addr × Obj)} {σ' : St} {H' : Hp} {s' : Shared}, Inv X' (pl ++ pl') σ' H' s' → Inv X' pl (capσ tg.length ci σ) H' s' := fun {pl pl' σ' H' s'} J => by
    obtain ⟨m, hn, _⟩ := J.loc
    have u : Un (frs X.stack) fp H2 H' s2.heap s'.heap := J.base
    exact ⟨J.ok, J.os, J.bare, J.base, ⟨m, hn, capLook _ _ fun x c o hx e => u.any e (I2.freeC x c hx) fun hb => (f2 c hb).2.2.2.2.1 x c hx rfl⟩, J.cell, J.free, J.freeC,
      fun p hp => (List.mem_append.mp hp).elim (fun z => J.pin p (List.mem_append_left _ z)) (fun z => J.pin p (List.mem_append_right _ (List.mem_append_left _ z))), J.hok, capLen⟩
  have stat : ∀ {H' : Hp}, (∀ b ∈ fp, H' b = none) → ∀ b ∈ fp, FpOk X' [] H' b := fun hn b hb => by
    obtain ⟨o, eo, _⟩ := T.obj _ _ st2 b hb
    have lt : s2.heap.objs.size ≥ Nat.succ b := Heap.lt_size eo
    exact ⟨hn b hb, by show @Ne Nat b C; omega, ok'.exfs b hb, .inl hb, (ok'.exf b hb).2, fun p hp => absurd (show p ∈ ([] : List (Addr × Obj)) from hp) (by simp)⟩
  have hDfp : D ∉ fp := fun hb => by obtain ⟨o, eo, _⟩ := T.obj _ _ st2 D hb; have lt : s2.heap.objs.size ≥ Nat.succ D := Heap.lt_size eo; omega
  have hDcell : ∀ x c, X'.env.cells.lookup x = some c → c ≠ D := fun x c hx => by
    obtain ⟨v, o, ho, hd⟩ := I2.cell x c (hcl1 x c hx)
    have lt : s2.heap.objs.size ≥ Nat.succ c := Heap.lt_size ho
    intro z; have z' : @Eq Nat c D := z; omega
  have hDfs : D ∉ X'.fs := fun hb => by
    have : D ∈ X.env.locals :: X.fs := I2.stkSub D hb
    rcases List.mem_cons.mp this with z | z
    · have l1 : s2.heap.objs.size ≥ Nat.succ X.env.locals := I2.lt
      have z' : @Eq Nat D X.env.locals := z
      omega
    · exact I2.nofs (show s2.heap.objs.size ≤ D by omega) z
  have fin : ∀ {pl : List (Addr × Obj)} {σ' : St} {H' : Hp} {s' : Shared} {vs : List V} {us : List Value} {k : Nat}, Inv X' pl σ' H' s' → H' D = none → s'.heap.get? D = some { cls := .type "list", data := .seq us.toArray k } → Vals vs us → vs.length ≤ sizeLine →
      (∀ D', H' D' = none → Q (.ref D') (upd H' D' (.lst vs))) →
      ∃ D' vs H', Value.ref D = .ref D' ∧ (Except.ok Flow.next : Result) = .ok .next ∧ Inv X pins σ (upd H' D' (.lst vs)) s' ∧ H' D' = none ∧ Gone X pins (upd H' D' (.lst vs)) s' C ∧ ∀ D', H' D' = none → Q (.ref D') (upd H' D' (.lst vs)) := by
    intro pl σ' H' s' vs us k J f e r z q
    have u : Un (frs X.stack) fp H2 H' s2.heap s'.heap := J.base
    have lt : ∀ {b : Addr} {o : Obj}, s2.heap.get? b = some o → b ≠ D := fun {b o} eb zb => by
      have l1 : s2.heap.objs.size ≥ Nat.succ b := Heap.lt_size eb
      have l2 : @Eq Nat b D := zb
      omega
    have u2 : Un (frs X.stack) fp H2 (upd H' D (.lst vs)) s2.heap s'.heap :=
      ⟨u.keep, u.slot, fun b o eb n hx => by rw [zag (lt eb)]; exact u.free b o eb n hx, u.there,
       fun b xs eb => by rw [zag (zaf eb fD)]; exact u.tups b xs eb, fun b o uu eb => by rw [zag (zaf eb fD)]; exact u.frzs b o uu eb, fun b ps eb => by rw [zag (zaf eb fD)]; exact u.tbls b ps eb⟩
    have hok2 : HOk X.prog X.w (upd H' D (.lst vs)) s'.heap := fun b o eb => by
      by_cases hb : b = D
      · subst hb
        rw [zac] at eb; cases eb
        exact ⟨z, us, k, r, e⟩
      · rw [zag hb] at eb
        refine (J.hok b o eb).stay (fun _ _ _ q => q) (fun c hc => ?_) fun c xs hc => ?_
        · rw [zag (fun zz => by rw [zz, f] at hc; cases hc)]; exact hc
        · rw [zag (fun zz => by rw [zz, f] at hc; cases hc)]; exact hc
    refine ⟨D, vs, H', rfl, rfl, I2.call' (ch := fp) J.os u2 hok2 J.bare ?_, f, ⟨?_, ?_, ?_, ?_, ?_, ?_, ?_⟩, q⟩
    · intro b hb
      obtain ⟨_, a2, _, a4, a5, a6⟩ := f2 b hb
      exact ⟨a4, a2, a5, a6⟩
    · obtain ⟨m, hn, _⟩ := J.loc; exact ⟨m, hn⟩
    · rw [zag (Ne.symm hDC)]; exact J.free
    · have l1 : s2.heap.objs.size ≥ Nat.succ X.env.locals := I2.lt
      intro zz; have zz' : @Eq Nat C X.env.locals := zz; omega
    · have l1 : X.s₀.heap.objs.size ≤ s2.heap.objs.size := I2.sz
      show X.s₀.heap.objs.size ≤ C; omega
    · intro x c hx zz
      obtain ⟨v, o, ho, hd⟩ := I2.cell x c hx
      have l1 : s2.heap.objs.size ≥ Nat.succ c := Heap.lt_size ho
      have zz' : @Eq Nat c C := zz
      omega
    · intro p hp zz
      have l1 : s2.heap.objs.size ≥ Nat.succ p.1 := Heap.lt_size (I2.pin p hp).1
      have zz' : @Eq Nat p.1 C := zz
      omega
    · exact I2.nofs (show s2.heap.objs.size ≤ C by omega)
  have loop : ∀ tk, codeAny (model X.prog X.w) X.A (.compLoop (.ListComp elt [⟨target, iter, [], 0⟩, ⟨t2, i2, [], 0⟩] scope pos) 0 (.ref it) (.ref D) (compEnvC scope cl C X.env))
      (fun r s' => ∃ D' vs H', Value.ref D = .ref D' ∧ r = .ok .next ∧ Inv X pins σ (upd H' D' (.lst vs)) s' ∧ H' D' = none ∧ Gone X pins (upd H' D' (.lst vs)) s' C ∧ ∀ D', H' D' = none → Q (.ref D') (upd H' D' (.lst vs))) { s2 with heap := h₁, toks := tk } := by
    intro tk
    refine zdq (fun n s' => ∃ i vs us k H', Inv X' [] (capσ tg.length ci σ) H' s' ∧ tn i s'.heap ∧ (∀ b ∈ fp, H' b = none) ∧ H' D = none ∧ s'.heap.get? D = some { cls := .type "list", data := .seq us.toArray k } ∧ Vals vs us ∧ vs.length ≤ sizeLine ∧ W i n vs H') ?_ m0
      ⟨0, [], [], 0, H2, I' tk, T.keep _ _ _ st2 (fun b hb o e => old b o e), fun b hb => (f2 b hb).1, fD, hD1, .nil, Nat.zero_le _, w0⟩ (hs2 _)
    rintro n s3 ⟨i, vs, us, k, H3, I3, st3, fr3, fD3, hD3, rv3, z3, w3⟩
    let pD : List (Addr × Obj) := [(D, { cls := .type "list", data := .seq us.toArray k })]
    have pinD : ∀ {σ' : St} {H' : Hp} {s' : Shared}, Inv X' [] σ' H' s' → H' D = none → s'.heap.get? D = some { cls := .type "list", data := .seq us.toArray k } → Inv X' pD σ' H' s' := fun {σ' H' s'} J f e =>
      J.pins_of fun p hp => by
        have : p = (D, { cls := .type "list", data := .seq us.toArray k }) := by simpa [pD] using hp
        subst this
        exact ⟨e, f, hDC, hDfs, fun v z => by cases z⟩
    have statD : ∀ {H' : Hp}, (∀ b ∈ fp, H' b = none) → ∀ b ∈ fp, FpOk X' pD H' b := fun hn b hb => by
      obtain ⟨a1, a2, a3, a4, a5, _⟩ := stat hn b hb
      refine ⟨a1, a2, a3, a4, a5, fun p hp => ?_⟩
      have : p = (D, { cls := .type "list", data := .seq us.toArray k }) := by
        have hp' : p ∈ ([] : List (Addr × Obj)) ++ pD := hp
        simpa [pD] using hp'
      subst this
      exact fun z => hDfp (by rw [show D = b from z]; exact hb)
    rcases turn i n vs H3 w3 with ⟨stop, qn⟩ | ⟨go, N, hN, step⟩
    · refine thn (T.done X' rfl rfl rfl hcalm i pD s3 _ H3 _ (pinD I3 fD3 hD3) (statD fr3) st3 stop) fun r s4 ⟨hr, I4⟩ => ?_
      subst hr
      have eD : s4.heap.get? D = some { cls := .type "list", data := .seq us.toArray k } := (I4.pin (D, _) (by simp [pD])).1
      exact fin I4 fD3 eD rv3 z3 qn
    · refine thn (T.item X' rfl rfl rfl hcalm i pD s3 _ H3 _ (pinD I3 fD3 hD3) (statD fr3) st3 go) fun r s4 ⟨u, hr, h4⟩ => ?_
      subst hr
      refine thn h4 fun _ s5 ⟨x, H5, I5, r5, y5, st5, fr5⟩ => ?_
      have I5' := I5.pinned (statD fr5) (T.obj _ _ st5)
      refine thn (hg C fp s2 H2 _ s5 _ H5 x u _ I5' r5 (step x H5 y5)) fun _ s6 ⟨σ6, H6, I6, q6⟩ => ?_
      have e6 := I6.pin (D, _) (List.mem_append_right _ (List.mem_append_left _ (by simp [pD] <;> rfl)))
      have I6' : Inv X' (ybZ fp s5.heap) σ6 H6 s6 := I6.pins_of fun p hp => I6.pin p (List.mem_append_right _ (List.mem_append_right _ hp))
      refine thn (yfO (X := X') rfl hcalm (hi2 C fp s2 H2) (hg2 C fp s2 H2) (he C fp s2 H2) hDC hDfs hDcell (show s2.heap.objs.size ≤ D by omega) (fun p hp => ?_) I6' e6.2.1 e6.1 rv3 z3 q6) fun v s7 h7 => thn h7 fun itv s8 h8 => codeAny_mono h8 fun r s9 ⟨hr, σ', vs', us', k', H', J, f', e', rv', z', n'⟩ => ?_
      · have hp' : p ∈ ([] : List (Addr × Obj)) ++ ybZ fp s5.heap := hp
        obtain ⟨hb, _⟩ := zdg (by simpa using hp')
        exact fun zz => hDfp (by rw [← zz]; exact hb)
      obtain ⟨m', hm, w'⟩ := hN _ _ n'
      have pb : ∀ b ∈ fp, ∀ o, s5.heap.get? b = some o → s9.heap.get? b = some o ∧ H' b = none := fun b hb o e => by
        have := J.pin (b, o) (List.mem_append_right _ (zaW hb e))
        exact ⟨this.1, this.2.1⟩
      refine ⟨hr, m', hm, i + 1, vs', us', k', H', recap (pl := []) (pl' := ybZ fp s5.heap) J, T.keep _ _ _ st5 fun b hb o e => (pb b hb o e).1, fun b hb => ?_, f', e', rv', z', w'⟩
      obtain ⟨o, e, _⟩ := T.obj _ _ st5 b hb
      exact (pb b hb o e).2
  exact codeAny_compStart_list (loop _) (T.self X.A 0 _ _ _ (T.keep _ _ _ st2 (fun b hb o e => old b o e)) (loop _))
theorem yeB {elt target iter t2 i2 : Expr} {scope : Scope} {pos : Pos} {tg cp : List Str} {ci : List Nat} {wi wi2 : TI} {g g2 : TG} {te : TE}
    (S : CSc X.N X.env.scope tg cp ci scope) (hcalm : X.calm = true) (hi : PI X target iter wi)
    (hg : ∀ cl C fp s H, PG (cxC X (tg ++ cp) scope cl C fp s H) target g) (hi2 : ∀ cl C fp s H, PI (cxC X (tg ++ cp) scope cl C fp s H) t2 i2 wi2) (hg2 : ∀ cl C fp s H, PG (cxC X (tg ++ cp) scope cl C fp s H) t2 g2) (he : ∀ cl C fp s H, PE (cxC X (tg ++ cp) scope cl C fp s H) elt te)
    (hs : ∀ x, foldedSetIterable iter X.env x = pure x := by intro _; rfl) (hs2 : ∀ env x, foldedSetIterable i2 env x = pure x := by intro _ _; rfl) : PE X (.ListComp elt [⟨target, iter, [], 0⟩, ⟨t2, i2, [], 0⟩] scope pos) (zff wi tg.length ci g wi2 g2 te) := by
  intro pins s σ H Q I h
  obtain ⟨cl, hclos, h1, h2⟩ := yaZ (scope := scope) (env := X.env) fun x hx hf => I.ok.has x.1 (S.free x hx hf)
  rw [eval_ListComp]
  refine wpAny_comprehension_free (use := none) rfl hs hclos S.kind S.loc (thn (yeM S hcalm hi h1 h2 (hg cl) (hi2 cl) (hg2 cl) (he cl) hs2 I h) fun x s1 q1 => thn q1 fun it s2 q2 => thn q2 fun acc s3 q3 => thn q3 fun cenv s4 q4 => codeAny_mono q4 fun r s' q => ?_)
  obtain ⟨D, vs, H', e1, e2, I', f, G, q⟩ := q
  subst e1 e2
  obtain ⟨m, hn⟩ := G.ns
  exact ⟨m, hn, fun h' hsb => ⟨.ref D, _, G.turned I' hsb, rfl, q D f⟩⟩
end
theorem yer {J : It} {n : Nat} {G : Hp → Prop} {y : Nat → V → Hp → Hp → Prop} (S : Seqs J n G y) {σc : St} {g : TG} {In : List V → (List V → Hp → Prop) → St → Hp → Prop} {H : Hp} {Fn : List V → Hp → Prop} (Pv : Nat → List V → Hp → Prop) (h0 : Pv 0 [] H) (hl : ∀ i acc H, i ≤ n → Pv i acc H → G H)
    (hs : ∀ i acc x H H', i < n → Pv i acc H → y i x H H' → g x σc H' fun σ2 H2 => In acc (Pv (i + 1)) σ2 H2)
    (hd : ∀ acc H, Pv n acc H → Fn acc H) :
    ∃ W : yeU, (∃ m, W 0 m [] H) ∧ ∀ i m acc H, W i m acc H →
      (J.stop i H ∧ Fn acc H) ∨
      (J.go i H ∧ ∃ N : List V → Hp → Prop, (∀ acc' H', N acc' H' → ∃ m', m' < m ∧ W (i + 1) m' acc' H') ∧ ∀ x H', J.yld i H x H' → g x σc H' fun σ2 H2 => In acc N σ2 H2) := by
  refine ⟨fun i m acc H => m = n - i ∧ i ≤ n ∧ Pv i acc H, ⟨n, by simp, Nat.zero_le _, h0⟩, ?_⟩
  rintro i m acc H ⟨rfl, hi, p⟩
  by_cases hlt : i < n
  · exact .inr ⟨S.go i H hlt (hl i acc H hi p), Pv (i + 1), fun acc' H' p' => ⟨n - (i + 1), by omega, rfl, hlt, p'⟩, fun x H' q => hs i acc x H H' hlt p (S.yld i H x H' hlt (hl i acc H hi p) q)⟩
  · have e : i = n := by omega
    subst e
    exact .inl ⟨S.stop H (hl _ acc H hi p), hd acc H p⟩
theorem yf2 {J : It} {n : Nat} {G : Hp → Prop} {y : Nat → V → Hp → Hp → Prop} (S : Seqs J n G y) {g : TG} {te : TE} {σ : St} {acc : List V} {H : Hp} {N : List V → Hp → Prop} (Pv : Nat → St → List V → Hp → Prop) (h0 : Pv 0 σ acc H) (hl : ∀ i σ acc H, i ≤ n → Pv i σ acc H → G H)
    (hz : ∀ i σ acc H, i < n → Pv i σ acc H → acc.length < sizeLine)
    (hs : ∀ i σ acc x H H', i < n → Pv i σ acc H → y i x H H' → g x σ H' fun σ2 H2 => te σ2 H2 fun v H3 => Pv (i + 1) σ2 (acc ++ [v]) H3)
    (hd : ∀ σ acc H, Pv n σ acc H → N acc H) :
    ∃ W : Nat → Nat → St → List V → Hp → Prop, (∃ m, W 0 m σ acc H) ∧ ∀ i m σ acc H, W i m σ acc H →
      (J.stop i H ∧ N acc H) ∨
      (J.go i H ∧ acc.length < sizeLine ∧ ∃ N2 : St → List V → Hp → Prop, (∀ σ' acc' H', N2 σ' acc' H' → ∃ m', m' < m ∧ W (i + 1) m' σ' acc' H') ∧ ∀ x H', J.yld i H x H' → g x σ H' fun σ2 H2 => te σ2 H2 fun v H3 => N2 σ2 (acc ++ [v]) H3) := by
  refine ⟨fun i m σ acc H => m = n - i ∧ i ≤ n ∧ Pv i σ acc H, ⟨n, by simp, Nat.zero_le _, h0⟩, ?_⟩
  rintro i m σ acc H ⟨rfl, hi, p⟩
  by_cases hlt : i < n
  · exact .inr ⟨S.go i H hlt (hl i σ acc H hi p), hz i σ acc H hlt p, Pv (i + 1), fun σ' acc' H' p' => ⟨n - (i + 1), by omega, rfl, hlt, p'⟩, fun x H' q => hs i σ acc x H H' hlt p (S.yld i H x H' hlt (hl i σ acc H hi p) q)⟩
  · have e : i = n := by omega
    subst e
    exact .inl ⟨S.stop H (hl _ σ acc H hi p), hd σ acc H p⟩
end L2
end
section
-- text: ExtRz
set_option Elab.async false
set_option linter.all false
set_option maxRecDepth 100000
set_option maxHeartbeats 4000000
namespace L2
open PySem PySem.Spec PyProof.Rows
section
variable {X : Cx}
end
end L2
namespace L2
open PySem PySem.Spec PyProof.Rows
theorem ydo {X : Cx} {K : PySem.W.Frag} {tg l : Expr} {tl : TE} (h : X.K = K) (hl : PE X l tl) : PI X tg l (iTup K tl) := h ▸ ycA hl
theorem zec {X : Cx} {K : PySem.W.Frag} (h : X.K = K) (hc : X.calm = true) : ybn X (.builtin "any") (zeZ K fun bs => bs.any id) := h ▸ zdC hc
theorem zen {X : Cx} {K : PySem.W.Frag} (h : X.K = K) (hc : X.calm = true) : ybn X (.builtin "all") (zeZ K fun bs => bs.all id) := h ▸ zbB hc
end L2
end
section
-- text: P1
set_option Elab.async false
set_option linter.all false
set_option maxRecDepth 100000
set_option maxHeartbeats 4000000
namespace My
open PySem L2 Dg
noncomputable def top (i : Nat) : Stmt := PySem.Challenge.pw_roundwords_k66_fewer_letters_told.main.body.getD i (.Pass ⟨0, 0, 0, 0⟩)
noncomputable abbrev ybS : Stmt := top 1
noncomputable abbrev zbj : Stmt := top 2
noncomputable abbrev za7 : Stmt := top 3
noncomputable abbrev ybN : Stmt := top 4
noncomputable abbrev zbg : Stmt := top 7
noncomputable abbrev zex : Stmt := top 8
noncomputable abbrev ybo : Stmt := top 9
noncomputable abbrev ycH : Stmt := top 10
noncomputable abbrev zdl : Stmt := top 11
noncomputable abbrev za8 : Stmt := top 12
noncomputable abbrev ybT : Stmt := top 13
noncomputable abbrev zaM : Stmt := top 14
noncomputable abbrev ybQ : Stmt := top 15
noncomputable abbrev zcS : Stmt := top 17
noncomputable abbrev ybF : Stmt := top 18
noncomputable abbrev ybB : Stmt := top 19
noncomputable abbrev zbJ : Stmt := top 20
noncomputable abbrev ydq : Stmt := top 21
noncomputable abbrev yaE : Stmt := top 23
noncomputable abbrev ybj : Stmt := top 24
noncomputable abbrev yb2 : Stmt := top 25
noncomputable abbrev zbm : Stmt := top 26
noncomputable abbrev ybx : Stmt := top 28
noncomputable abbrev ybH : Stmt := top 29
noncomputable abbrev zbn : Stmt := top 30
noncomputable abbrev ybh : Stmt := top 31
noncomputable abbrev zbh : Stmt := top 32
noncomputable abbrev za6 : Stmt := top 33
noncomputable abbrev yaO : Stmt := top 34
noncomputable abbrev za4 : Stmt := top 35
noncomputable abbrev ya3 : Stmt := top 36
noncomputable abbrev zby : Stmt := top 37
noncomputable abbrev zbt : Stmt := top 38
noncomputable abbrev zbI : Stmt := top 39
noncomputable abbrev yav : Stmt := top 40
noncomputable abbrev ya4 : Stmt := top 41
noncomputable abbrev ya1 : Stmt := top 42
noncomputable abbrev zaA : Stmt := top 43
noncomputable abbrev ybf : Stmt := top 44
noncomputable abbrev zdu : Stmt := top 45
noncomputable def zfl : List Str := ["range", "len", "abs", "min", "max", "all", "any", "isinstance", "int", "bool", "tuple", "list", "zip", "enumerate", "repr", "dict", "reversed", "sorted", "sum", "set", "str"]
noncomputable abbrev Bl (mg : Str → Option Value) : Prop := ∀ x ∈ zfl, mg x = none
noncomputable def Fld (K : PySem.W.Frag) (H : Hp) (a : Addr) (p m t : Nat) : Prop := SqT K H a [.int p, .int m, .int t]
theorem Same.tup {K : PySem.W.Frag} {H H' : Hp} {a : Addr} {xs : List V} (e : Same H H') (h : SqT K H a xs) : SqT K H' a xs := by
  rcases h with (h | ⟨o, h⟩) | h
  · exact .inl (.inl (e _ _ h))
  · exact .inl (.inr ⟨o, e _ _ h⟩)
  · exact .inr h
noncomputable def mI (σ : St) (i : Nat) : Nat := match σ[i]? with
  | some (some (.int n)) => n.toNat
  | _ => 0
local macro_rules | `(tactic| walk_at "rd") => `(tactic| repeat (first | refine ⟨_, rfl, ?_⟩ | refine ⟨_, _, rfl, rfl, ?_⟩))
theorem yfk {t u : TT} {σ : St} {H : Hp} {Q : Bool → Hp → Prop} {b1 b2 : Bool} (h1 : ∀ Q : Bool → Hp → Prop, Q b1 H → t σ H Q) (h2 : ∀ Q : Bool → Hp → Prop, Q b2 H → u σ H Q) (q : Q (b1 || b2) H) : tOr t u σ H Q := by
  refine h1 _ ?_
  cases b1
  · exact h2 _ q
  · exact q
section
variable {P : Program} {w : World} {K : PySem.W.Frag} {mg : Str → Option Value} {base : Heap} {f : Addr} {fd : FuncData}
noncomputable def zdn (K : PySem.W.Frag) : Sp := fun vs H Q _ => ∃ (a : Addr) (p m t x y : Nat), vs = [.ref a, .int x, .int y] ∧ Fld K H a p m t ∧ 2 ≤ p ∧ p ≤ 64 ∧ ∀ r : Nat, (∀ i, dg p i r = (dg p i x + dg p i y) % p) → Q (.int r) H
theorem ybt : yaj ["field", "one", "other", "p", "total", "unit"] ["field", "one", "other"] (zae zex) := ⟨rfl, rfl, rfl, by decide +kernel, rfl, by decide +kernel, by decide +kernel⟩
theorem yfA (B : Bl mg) (F : Fun K "plus" "plus" zex f fd) : FnOk P w K mg base CX0 1 f fd ["field", "one", "other"] (zdn K) := by
  refine F.ok ybt (fun vs H Q E h => ?_) (fun cdv A outer s H vs Q E hr h => ?_)
  · obtain ⟨a, p, m, t, x, y, rfl, _⟩ := h; rfl
  obtain ⟨a, p, m, t, x, y, rfl, hF, hp, hp2, q⟩ := h
  refine ⟨_, (@yaa _ _ _ _ _ (@yag _ _ 3 _ _ _ _ ybt.nd rfl (Or.inl rfl) (@zao _ _ _ _ _ _ _ zav (pv 0) yab (fun _ _ => rfl)) (by rfl) (by first | exact .inl rfl | exact .inr rfl | assumption)) (@yaa _ _ _ _ _ (@yag _ _ 4 _ _ _ _ ybt.nd rfl (Or.inl rfl) yab (by rfl) (by first | exact .inl rfl | exact .inr rfl | assumption)) (@yaa _ _ _ _ _ (@yag _ _ 5 _ _ _ _ ybt.nd rfl (Or.inl rfl) yab (by rfl) (by first | exact .inl rfl | exact .inr rfl | assumption)) (@yaa _ _ _ _ _ (@zaJ _ _ _ _ _ _ PassesOwn.never (@PW.pt _ _ _ (@zbE _ _ _ _ _ _ _ (@zai _ _ _ _ _ _ _ _ zb1 (pv 1) yab (zam _)) (@za1 _ _ _ _ (@zai _ _ _ _ _ _ _ _ zb1 (pv 2) yab (zam _))))) (@yaa _ _ _ _ _ (@zbr _ _ 4 _ _ _ _ _ _ ybt.nd rfl (Or.inl rfl) (@zah _ _ _ _ _ _ _ _ yaK (@zah _ _ _ _ _ _ _ _ zat (@zah _ _ _ _ _ _ _ _ yay (pv 1) (pv 2)) (pv 3)) (pv 5)) zdj (by first | exact .inl rfl | exact .inr rfl | assumption)) (@yaa _ _ _ _ _ (@zbr _ _ 1 _ _ _ _ _ _ ybt.nd rfl (Or.inl rfl) (pv 3) zcj (by first | exact .inl rfl | exact .inr rfl | assumption)) (@yaa _ _ _ _ _ (@zbr _ _ 2 _ _ _ _ _ _ ybt.nd rfl (Or.inl rfl) (pv 3) zcj (by first | exact .inl rfl | exact .inr rfl | assumption)) (@zad _ _ _ (@zbr _ _ 5 _ _ _ _ _ _ ybt.nd rfl (Or.inl rfl) (pv 3) zdk (by first | exact .inl rfl | exact .inr rfl | assumption))))))) (@zad _ _ _ (@zaj _ _ _ _ (pv 4))))))), ?_⟩
  refine ⟨_, rfl, a, _, _, _, rfl, rfl, hF, rfl, ?_⟩
  refine zaK (fun σ H' => H' = H ∧ ∃ (k o u tt : Nat), σ = [some (.ref a), some (.int o), some (.int u), some (.int p), some (.int tt), some (.int ((p ^ k : Nat) : Int))] ∧ o = x / p ^ k ∧ u = y / p ^ k ∧ tt < p ^ k ∧ ∀ i, i < k → dg p i tt = (dg p i x + dg p i y) % p)
    (fun σ _ => mI σ 1 + mI σ 2) ⟨rfl, 0, x, y, 0, rfl, by simp, by simp, by simp, fun i hi => absurd hi (Nat.not_lt_zero _)⟩ ?_
  rintro σ H' ⟨rfl, k, o, u, tt, rfl, ho, hu, ht, hd⟩
  have pk : 0 < p ^ k := Nat.pow_pos (by omega)
  refine yfk (b1 := decide ((0 : Int) < o)) (b2 := decide ((0 : Int) < u)) (fun Q q => ⟨_, rfl, _, _, rfl, rfl, _, rfl, q⟩) (fun Q q => ⟨_, rfl, _, _, rfl, rfl, _, rfl, q⟩) ?_
  refine ite2 (fun c => ?_) (fun c => ?_)
  · simp only [Bool.or_eq_true, decide_eq_true_eq] at c
    refine ⟨fun σ' H'' => H'' = H' ∧ σ' = [some (.ref a), some (.int ((o / p : Nat) : Int)), some (.int ((u / p : Nat) : Int)), some (.int p), some (.int ((tt + (o + u) % p * p ^ k : Nat) : Int)), some (.int ((p ^ k * p : Nat) : Int))], ?_, ?_⟩
    · rintro σ' H'' ⟨rfl, rfl⟩
      have l1 : o / p ≤ o := Nat.div_le_self _ _
      have l2 : u / p ≤ u := Nat.div_le_self _ _
      have l3 : o / p < o ∨ u / p < u := by
        rcases c with c | c
        · exact .inl (Nat.div_lt_self (by omega) (by omega))
        · exact .inr (Nat.div_lt_self (by omega) (by omega))
      refine ⟨_, ?_, rfl, rfl, k + 1, o / p, u / p, tt + (o + u) % p * p ^ k, rfl, ?_, ?_, ?_, fun i hi => ?_⟩
      · show o / p + u / p < o + u; omega
      · rw [ho, Nat.pow_succ, Nat.div_div_eq_div_mul]
      · rw [hu, Nat.pow_succ, Nat.div_div_eq_div_mul]
      · exact zfk ht (Nat.mod_lt _ (by omega))
      · rw [yfj hp ht (Nat.mod_lt _ (by omega))]
        by_cases e : i = k
        · rw [if_pos e, ho, hu, e]; unfold dg; rw [Nat.add_mod]
        · rw [if_neg e]; exact hd i (by omega)
    · walk_at "rd"
      refine ⟨by show (0 : Int) < p; omega, ?_⟩
      walk_at "rd"
      have hm : (o + u) % p < p := Nat.mod_lt _ (by omega)
      refine ⟨.inl ⟨by show -(2 ^ 64 : Int) < (((o + u) % p : Nat) : Int); omega, by show (((o + u) % p : Nat) : Int) < 2 ^ 64; omega⟩, ?_⟩
      walk_at "rd"
      refine ⟨⟨by show (0 : Int) < p; omega, by show (p : Int) < 2 ^ 64; omega⟩, ?_⟩
      walk_at "rd"
      refine ⟨⟨by show (0 : Int) < p; omega, by show (p : Int) < 2 ^ 64; omega⟩, ?_⟩
      walk_at "rd"
      refine ⟨.inr ⟨by show -(2 ^ 64 : Int) < p; omega, by show (p : Int) < 2 ^ 64; omega⟩, ?_⟩
      exact ⟨rfl, rfl⟩
  · simp only [Bool.or_eq_true, decide_eq_true_eq, not_or] at c
    refine ⟨_, rfl, q tt fun i => ?_⟩
    by_cases e : i < k
    · exact hd i e
    · have hx : x < p ^ k := by
        rcases Nat.lt_or_ge x (p ^ k) with h | h
        · exact h
        · have := Nat.div_pos h pk; omega
      have hy : y < p ^ k := by
        rcases Nat.lt_or_ge y (p ^ k) with h | h
        · exact h
        · have := Nat.div_pos h pk; omega
      rw [zaB hp ht (by omega), zaB hp hx (by omega), zaB hp hy (by omega)]
      simp
noncomputable def ya5 (K : PySem.W.Frag) : Sp := fun vs H Q _ => ∃ (a : Addr) (p m t d x : Nat), vs = [.ref a, .int d, .int x] ∧ Fld K H a p m t ∧ 2 ≤ p ∧ p ≤ 64 ∧ d < 2 ^ 64 ∧ ∀ r : Nat, (∀ i, dg p i r = d * dg p i x % p) → Q (.int r) H
theorem yat : yaj ["field", "digit", "one", "p", "total", "unit"] ["field", "digit", "one"] (zae ybo) := ⟨rfl, rfl, rfl, by decide +kernel, rfl, by decide +kernel, by decide +kernel⟩
theorem zcq (B : Bl mg) (F : Fun K "digit_times" "digit_times" ybo f fd) : FnOk P w K mg base CX0 1 f fd ["field", "digit", "one"] (ya5 K) := by
  refine F.ok yat (fun vs H Q E h => ?_) (fun cdv A outer s H vs Q E hr h => ?_)
  · obtain ⟨a, p, m, t, x, y, rfl, _⟩ := h; rfl
  obtain ⟨a, p, m, t, d, x, rfl, hF, hp, hp2, hd2, q⟩ := h
  refine ⟨_, (@yaa _ _ _ _ _ (@yag _ _ 3 _ _ _ _ yat.nd rfl (Or.inl rfl) (@zao _ _ _ _ _ _ _ zav (pv 0) yab (fun _ _ => rfl)) (by rfl) (by first | exact .inl rfl | exact .inr rfl | assumption)) (@yaa _ _ _ _ _ (@yag _ _ 4 _ _ _ _ yat.nd rfl (Or.inl rfl) yab (by rfl) (by first | exact .inl rfl | exact .inr rfl | assumption)) (@yaa _ _ _ _ _ (@yag _ _ 5 _ _ _ _ yat.nd rfl (Or.inl rfl) yab (by rfl) (by first | exact .inl rfl | exact .inr rfl | assumption)) (@yaa _ _ _ _ _ (@zaJ _ _ _ _ _ _ PassesOwn.never (@zai _ _ _ _ _ _ _ _ zb1 (pv 2) yab (zam _)) (@yaa _ _ _ _ _ (@zbr _ _ 4 _ _ _ _ _ _ yat.nd rfl (Or.inl rfl) (@zah _ _ _ _ _ _ _ _ yaK (@zah _ _ _ _ _ _ _ _ zat (@zah _ _ _ _ _ _ _ _ yaK (pv 1) (pv 2)) (pv 3)) (pv 5)) zdj (by first | exact .inl rfl | exact .inr rfl | assumption)) (@yaa _ _ _ _ _ (@zbr _ _ 2 _ _ _ _ _ _ yat.nd rfl (Or.inl rfl) (pv 3) zcj (by first | exact .inl rfl | exact .inr rfl | assumption)) (@zad _ _ _ (@zbr _ _ 5 _ _ _ _ _ _ yat.nd rfl (Or.inl rfl) (pv 3) zdk (by first | exact .inl rfl | exact .inr rfl | assumption)))))) (@zad _ _ _ (@zaj _ _ _ _ (pv 4))))))), ?_⟩
  refine ⟨_, rfl, a, _, _, _, rfl, rfl, hF, rfl, ?_⟩
  refine zaK (fun σ H' => H' = H ∧ ∃ (k o tt : Nat), σ = [some (.ref a), some (.int d), some (.int o), some (.int p), some (.int tt), some (.int ((p ^ k : Nat) : Int))] ∧ o = x / p ^ k ∧ tt < p ^ k ∧ ∀ i, i < k → dg p i tt = d * dg p i x % p)
    (fun σ _ => mI σ 2) ⟨rfl, 0, x, 0, rfl, by simp, by simp, fun i hi => absurd hi (Nat.not_lt_zero _)⟩ ?_
  rintro σ H' ⟨rfl, k, o, tt, rfl, ho, ht, hd⟩
  have pk : 0 < p ^ k := Nat.pow_pos (by omega)
  walk_at "rd"
  refine ite2 (fun c => ?_) (fun c => ?_)
  · have c' : 0 < o := by have := of_decide_eq_true c; omega
    refine ⟨fun σ' H'' => H'' = H' ∧ σ' = [some (.ref a), some (.int d), some (.int ((o / p : Nat) : Int)), some (.int p), some (.int ((tt + d * o % p * p ^ k : Nat) : Int)), some (.int ((p ^ k * p : Nat) : Int))], ?_, ?_⟩
    · rintro σ' H'' ⟨rfl, rfl⟩
      refine ⟨_, ?_, rfl, rfl, k + 1, o / p, tt + d * o % p * p ^ k, rfl, ?_, ?_, fun i hi => ?_⟩
      · show o / p < o; exact Nat.div_lt_self c' (by omega)
      · rw [ho, Nat.pow_succ, Nat.div_div_eq_div_mul]
      · exact zfk ht (Nat.mod_lt _ (by omega))
      · rw [yfj hp ht (Nat.mod_lt _ (by omega))]
        by_cases e : i = k
        · rw [if_pos e, ho, e]; unfold dg; rw [Nat.mul_mod_mod]
        · rw [if_neg e]; exact hd i (by omega)
    · have hm : d * o % p < p := Nat.mod_lt _ (by omega)
      walk_at "rd"
      refine ⟨.inl ⟨by show -(2 ^ 64 : Int) < (d : Int); omega, by show (d : Int) < 2 ^ 64; omega⟩, ?_⟩
      walk_at "rd"
      refine ⟨by show (0 : Int) < p; omega, ?_⟩
      walk_at "rd"
      refine ⟨.inl ⟨by show -(2 ^ 64 : Int) < ((d * o % p : Nat) : Int); omega, by show ((d * o % p : Nat) : Int) < 2 ^ 64; omega⟩, ?_⟩
      walk_at "rd"
      refine ⟨⟨by show (0 : Int) < p; omega, by show (p : Int) < 2 ^ 64; omega⟩, ?_⟩
      walk_at "rd"
      refine ⟨.inr ⟨by show -(2 ^ 64 : Int) < p; omega, by show (p : Int) < 2 ^ 64; omega⟩, ?_⟩
      exact ⟨rfl, rfl⟩
  · have c' : o = 0 := by have := of_decide_eq_false (Bool.eq_false_iff.mpr c); omega
    refine ⟨_, rfl, q tt fun i => ?_⟩
    by_cases e : i < k
    · exact hd i e
    · have hx : x < p ^ k := by
        rcases Nat.lt_or_ge x (p ^ k) with h | h
        · exact h
        · have := Nat.div_pos h pk; omega
      rw [zaB hp ht (by omega), zaB hp hx (by omega)]
      simp
noncomputable def yal : Sp := fun vs H Q _ => ∃ (b k : Nat), vs = [.int b, .int k] ∧ b ≤ 64 ∧ k ≤ 1000 ∧ Q (.int ((b ^ k : Nat) : Int)) H
theorem yaJ : yaj ["base", "many", "product", "step"] ["base", "many"] (zae za7) := ⟨rfl, rfl, rfl, by decide +kernel, rfl, by decide +kernel, by decide +kernel⟩
theorem zcm (B : Bl mg) (F : Fun K "number_power" "number_power" za7 f fd) : FnOk P w K mg base CX0 1 f fd ["base", "many"] yal := by
  refine F.ok yaJ (fun vs H Q E h => ?_) (fun cdv A outer s H vs Q E hr h => ?_)
  · obtain ⟨b, k, rfl, _⟩ := h; rfl
  obtain ⟨b, k, rfl, hb, hk, q⟩ := h
  refine ⟨_, (@yaa _ _ _ _ _ (@yag _ _ 2 _ _ _ _ yaJ.nd rfl (Or.inl rfl) yab (by rfl) (by first | exact .inl rfl | exact .inr rfl | assumption)) (@yaa _ _ _ _ _ (@zaG _ _ _ _ _ _ _ _ PassesOwn.never rfl (@zaD _ _ _ _ _ _ rfl (B "range" (by decide)) (@zaa _ _ _ _ _ (pv 1) zab (by rfl)) (by rfl)) (@yae _ _ 3 _ yaJ.nd rfl (Or.inl rfl) (by first | exact .inl rfl | exact .inr rfl | assumption)) (@zad _ _ _ (@zbr _ _ 2 _ _ _ _ _ _ yaJ.nd rfl (Or.inl rfl) (pv 0) zdk (by first | exact .inl rfl | exact .inr rfl | assumption))) (by intro _; rfl)) (@zad _ _ _ (@zaj _ _ _ _ (pv 2))))), ?_⟩
  refine ⟨_, rfl, k, rfl, by omega, by omega, yaw (n := k) (fun i σ H' => H' = H ∧ ∃ s, σ = [some (.int b), some (.int k), some (.int ((b ^ i : Nat) : Int)), s]) ⟨rfl, none, rfl⟩ ?_ ?_⟩
  · rintro i σ H' hi ⟨rfl, s, rfl⟩
    walk_at "rd"
    refine ⟨.inr ⟨by omega, by omega⟩, rfl, some (.int (0 + (i : Int))), ?_⟩
    rw [Nat.pow_succ]; rfl
  · rintro σ H' ⟨rfl, s, rfl⟩
    exact ⟨_, rfl, q⟩
theorem ycE {i j : Int} (h : i = j) : V.int i = V.int j := congrArg V.int h
noncomputable def zc3 (K : PySem.W.Frag) : Sp := fun vs H Q _ => ∃ (a : Addr) (p m t x : Nat), vs = [.ref a, .int x] ∧ Fld K H a p m t ∧ 2 ≤ p ∧ 1 ≤ m ∧ p ^ m ≤ 64 ∧ t < p ^ m ∧ x < p ^ m ∧ ∀ r : Nat, (∀ i, dg p i r = yax m (fun i => dg p i t) (fun i => dg p i x) i % p) → Q (.int r) H
theorem p_le {p m : Nat} (hp : 2 ≤ p) (hm : 1 ≤ m) (h : p ^ m ≤ 64) : p ≤ 64 := Nat.le_trans (by simpa using Nat.pow_le_pow_right (n := p) (by omega) hm) h
theorem m_le {p m : Nat} (hp : 2 ≤ p) (h : p ^ m ≤ 64) : m ≤ 6 := by
  rcases Nat.lt_or_ge 6 m with h1 | h1
  · have := Nat.pow_le_pow_left hp m
    have := Nat.pow_le_pow_right (n := 2) (by omega) h1
    omega
  · exact h1
theorem ybe : yaj ["field", "one", "p", "m", "top", "last_unit", "moved"] ["field", "one"] (zae ycH) := ⟨rfl, rfl, rfl, by decide +kernel, rfl, by decide +kernel, by decide +kernel⟩
theorem yeq (B : Bl mg) (h_plus : Has P w K mg base 1 "plus" ["field", "one", "other"] (zdn K)) (h_digit_times : Has P w K mg base 1 "digit_times" ["field", "digit", "one"] (ya5 K)) (h_number_power : Has P w K mg base 1 "number_power" ["base", "many"] yal) (F : Fun K "lifted" "lifted" ycH f fd) : FnOk P w K mg base CX0 2 f fd ["field", "one"] (zc3 K) := by
  refine F.ok ybe (fun vs H Q E h => ?_) (fun cdv A outer s H vs Q E hr h => ?_)
  · obtain ⟨a, p, m, t, x, rfl, _⟩ := h; rfl
  obtain ⟨a, p, m, t, x, rfl, hF, hp, hm, hpm, ht, hx, q⟩ := h
  have hp2 := p_le hp hm hpm
  have hm6 := m_le hp hpm
  refine ⟨_, (@yaa _ _ _ _ _ (@yaS _ _ _ _ _ _ (pv 0) (@zaQ _ _ _ _ _ _ rfl (@yaf _ _ _ _ _ (@yae _ _ 2 _ ybe.nd rfl (Or.inl rfl) (by first | exact .inl rfl | exact .inr rfl | assumption)) (@yaf _ _ _ _ _ (@yae _ _ 3 _ ybe.nd rfl (Or.inl rfl) (by first | exact .inl rfl | exact .inr rfl | assumption)) (@yaf _ _ _ _ _ (@yae _ _ 4 _ ybe.nd rfl (Or.inl rfl) (by first | exact .inl rfl | exact .inr rfl | assumption)) zax (by rfl)) (by rfl)) (by rfl)) (by rfl) (by rfl)) (by rfl) (by rfl) (by rfl)) (@yaa _ _ _ _ _ (@yag _ _ 5 _ _ _ _ ybe.nd rfl (Or.inl rfl) (@yad _ _ _ _ _ _ _ _ _ _ _ h_number_power hr (by decide) rfl (@zaa _ _ _ _ _ (pv 2) (@zaa _ _ _ _ _ (@zah _ _ _ _ _ _ _ _ zbX (pv 3) yab) zab (by rfl)) (by rfl)) (by decide) (by rfl) (by rfl)) (by rfl) (by first | exact .inl rfl | exact .inr rfl | assumption)) (@yaa _ _ _ _ _ (@yag _ _ 6 _ _ _ _ ybe.nd rfl (Or.inl rfl) (@zah _ _ _ _ _ _ _ _ yaK (@zah _ _ _ _ _ _ _ _ zat (pv 1) (pv 5)) (pv 2)) (by rfl) (by first | exact .inl rfl | exact .inr rfl | assumption)) (@zad _ _ _ (@zaj _ _ _ _ (@yad _ _ _ _ _ _ _ _ _ _ _ h_plus hr (by decide) rfl (@zaa _ _ _ _ _ (pv 0) (@zaa _ _ _ _ _ (pv 6) (@zaa _ _ _ _ _ (@yad _ _ _ _ _ _ _ _ _ _ _ h_digit_times hr (by decide) rfl (@zaa _ _ _ _ _ (pv 0) (@zaa _ _ _ _ _ (@zah _ _ _ _ _ _ _ _ zc1 (pv 1) (pv 5)) (@zaa _ _ _ _ _ (pv 4) zab (by rfl)) (by rfl)) (by rfl)) (by decide) (by rfl) (by rfl)) zab (by rfl)) (by rfl)) (by rfl)) (by decide) (by rfl) (by rfl))))))), ?_⟩
  refine ⟨_, rfl, a, _, rfl, hF, rfl, _, _, rfl, _, _, rfl, _, _, rfl, rfl, ?_⟩
  walk_at "rd"
  refine ⟨p, m - 1, by dsimp only; rw [show ((m : Nat) : Int) - 1 = ((m - 1 : Nat) : Int) by omega]; rfl, hp2, by omega, ?_⟩
  have hl : p ^ (m - 1) ≤ 64 := Nat.le_trans (Nat.pow_le_pow_right (by omega) (by omega)) hpm
  have hl0 : 0 < p ^ (m - 1) := Nat.pow_pos (by omega)
  walk_at "rd"
  refine ⟨by show (0 : Int) < ((p ^ (m - 1) : Nat) : Int); omega, ?_⟩
  walk_at "rd"
  refine ⟨.inr ⟨by show -(2 ^ 64 : Int) < (p : Int); omega, by show (p : Int) < 2 ^ 64; omega⟩, ?_⟩
  walk_at "rd"
  refine ⟨⟨by show (0 : Int) < ((p ^ (m - 1) : Nat) : Int); omega, by show ((p ^ (m - 1) : Nat) : Int) < 2 ^ 64; omega⟩, ?_⟩
  walk_at "rd"
  have hdl := yfD hp hm hx
  have hdl2 := yfP hp (m - 1) x
  refine ⟨a, p, m, t, x / p ^ (m - 1), t, rfl, hF, hp, hp2, by omega, fun r1 h1 => ?_⟩
  refine ⟨a, p, m, t, x % p ^ (m - 1) * p, r1, rfl, hF, hp, hp2, fun r h2 => q r fun i => ?_⟩
  rw [h2 i, h1 i, zf7 hp, zfY hp, hdl, Nat.add_mod_mod]
  unfold yax yaB
  by_cases hi : i < m
  · rw [if_pos hi]
    by_cases h0 : i = 0
    · rw [if_pos h0, if_pos h0]
    · rw [if_neg h0, if_neg h0, if_pos (by omega)]
  · rw [if_neg hi, if_neg (by omega), if_neg (by omega), zaB hp ht (by omega)]
    simp
noncomputable def ycD (K : PySem.W.Frag) : Sp := fun vs H Q _ => ∃ (a : Addr) (p m t x y : Nat), vs = [.ref a, .int x, .int y] ∧ Fld K H a p m t ∧ 2 ≤ p ∧ 1 ≤ m ∧ p ^ m ≤ 64 ∧ t < p ^ m ∧ x < p ^ m ∧ y < p ^ m ∧
  ∀ r : Nat, r < p ^ m → (∀ i, i < m → dg p i r = tn m (fun i => dg p i t) m (fun i => dg p i x) (fun i => dg p i y) i % p) → Q (.int r) H
theorem ybC : yaj ["field", "one", "other", "p", "total"] ["field", "one", "other"] (zae zdl) := ⟨rfl, rfl, rfl, by decide +kernel, rfl, by decide +kernel, by decide +kernel⟩
theorem ze3 (B : Bl mg) (h_plus : Has P w K mg base 1 "plus" ["field", "one", "other"] (zdn K)) (h_digit_times : Has P w K mg base 1 "digit_times" ["field", "digit", "one"] (ya5 K)) (h_lifted : Has P w K mg base 2 "lifted" ["field", "one"] (zc3 K)) (F : Fun K "times" "times" zdl f fd) : FnOk P w K mg base CX0 3 f fd ["field", "one", "other"] (ycD K) := by
  refine F.ok ybC (fun vs H Q E h => ?_) (fun cdv A outer s H vs Q E hr h => ?_)
  · obtain ⟨a, p, m, t, x, y, rfl, _⟩ := h; rfl
  obtain ⟨a, p, m, t, x, y, rfl, hF, hp, hm, hpm, ht, hx, hy, q⟩ := h
  have hp2 := p_le hp hm hpm
  refine ⟨_, (@yaa _ _ _ _ _ (@yag _ _ 3 _ _ _ _ ybC.nd rfl (Or.inl rfl) (@zao _ _ _ _ _ _ _ zav (pv 0) yab (fun _ _ => rfl)) (by rfl) (by first | exact .inl rfl | exact .inr rfl | assumption)) (@yaa _ _ _ _ _ (@yag _ _ 4 _ _ _ _ ybC.nd rfl (Or.inl rfl) yab (by rfl) (by first | exact .inl rfl | exact .inr rfl | assumption)) (@yaa _ _ _ _ _ (@zaJ _ _ _ _ _ _ PassesOwn.never (@zai _ _ _ _ _ _ _ _ zb1 (pv 1) yab (zam _)) (@yaa _ _ _ _ _ (@yag _ _ 4 _ _ _ _ ybC.nd rfl (Or.inl rfl) (@yad _ _ _ _ _ _ _ _ _ _ _ h_plus hr (by decide) rfl (@zaa _ _ _ _ _ (pv 0) (@zaa _ _ _ _ _ (pv 4) (@zaa _ _ _ _ _ (@yad _ _ _ _ _ _ _ _ _ _ _ h_digit_times hr (by decide) rfl (@zaa _ _ _ _ _ (pv 0) (@zaa _ _ _ _ _ (@zah _ _ _ _ _ _ _ _ zat (pv 1) (pv 3)) (@zaa _ _ _ _ _ (pv 2) zab (by rfl)) (by rfl)) (by rfl)) (by decide) (by rfl) (by rfl)) zab (by rfl)) (by rfl)) (by rfl)) (by decide) (by rfl) (by rfl)) (by rfl) (by first | exact .inl rfl | exact .inr rfl | assumption)) (@yaa _ _ _ _ _ (@zbr _ _ 1 _ _ _ _ _ _ ybC.nd rfl (Or.inl rfl) (pv 3) zcj (by first | exact .inl rfl | exact .inr rfl | assumption)) (@zad _ _ _ (@zaC _ _ _ _ _ _ _ _ (@zai _ _ _ _ _ _ _ _ zb1 (pv 1) yab (zam _)) (@zad _ _ _ (@yag _ _ 2 _ _ _ _ ybC.nd rfl (Or.inl rfl) (@yad _ _ _ _ _ _ _ _ _ _ _ h_lifted hr (by decide) rfl (@zaa _ _ _ _ _ (pv 0) (@zaa _ _ _ _ _ (pv 2) zab (by rfl)) (by rfl)) (by decide) (by rfl) (by rfl)) (by rfl) (by first | exact .inl rfl | exact .inr rfl | assumption))) yam))))) (@zad _ _ _ (@zaj _ _ _ _ (pv 4)))))), ?_⟩
  refine ⟨_, rfl, a, _, _, _, rfl, rfl, hF, rfl, ?_⟩
  refine zaK (fun σ H' => H' = H ∧ ∃ (k o u tt : Nat), σ = [some (.ref a), some (.int o), some (.int u), some (.int p), some (.int tt)] ∧ o < p ^ k ∧ u < p ^ m ∧ tt < p ^ m ∧
      ∀ i, i < m → (dg p i tt + tn m (fun i => dg p i t) k (fun i => dg p i o) (fun i => dg p i u) i) % p = tn m (fun i => dg p i t) m (fun i => dg p i x) (fun i => dg p i y) i % p)
    (fun σ _ => mI σ 1) ⟨rfl, m, x, y, 0, rfl, hx, hy, Nat.pow_pos (by omega), fun i _ => by rw [zbq, Nat.zero_add]⟩ ?_
  rintro σ H' ⟨rfl, k, o, u, tt, rfl, ho, hu, htt, hd⟩
  walk_at "rd"
  refine ite2 (fun c => ?_) (fun c => ?_)
  · have c' : 0 < o := by have := of_decide_eq_true c; omega
    have hk : k ≠ 0 := fun e => by rw [e] at ho; simp at ho; omega
    obtain ⟨k, rfl⟩ : ∃ j, k = j + 1 := ⟨k - 1, by omega⟩
    have om : o % p < p := Nat.mod_lt _ (by omega)
    have ho2 : o / p < p ^ k := Nat.div_lt_of_lt_mul (by rw [Nat.pow_succ, Nat.mul_comm] at ho; exact ho)
    have ho3 : o / p < o := Nat.div_lt_self c' (by omega)
    refine ⟨fun σ' H'' => H'' = H' ∧ ∃ (o' u' t' : Nat), o' = o / p ∧ σ' = [some (.ref a), some (.int o'), some (.int u'), some (.int p), some (.int t')] ∧ u' < p ^ m ∧ t' < p ^ m ∧
      ∀ i, i < m → (dg p i t' + tn m (fun i => dg p i t) k (fun i => dg p i o') (fun i => dg p i u') i) % p = tn m (fun i => dg p i t) m (fun i => dg p i x) (fun i => dg p i y) i % p, ?_, ?_⟩
    · rintro σ' H'' ⟨rfl, o', u', t', rfl, rfl, b1, b2, b3⟩
      exact ⟨_, by show o / p < o; exact ho3, rfl, rfl, k, o / p, u', t', rfl, ho2, b1, b2, b3⟩
    walk_at "rd"
    refine ⟨by show (0 : Int) < p; omega, ?_⟩
    walk_at "rd"
    refine ⟨a, p, m, t, o % p, u, rfl, hF, hp, hp2, by omega, fun r1 h1 => ?_⟩
    refine ⟨a, p, m, t, tt, r1, rfl, hF, hp, hp2, fun r2 h2 => ?_⟩
    have hr2 : r2 < p ^ m := zbU hp fun i hi => by rw [h2 i, h1 i, zaB hp htt hi, zaB hp hu hi]; simp
    have hd2 : ∀ i, i < m → (dg p i r2 + tn m (fun i => dg p i t) k (fun i => dg p i (o / p)) (yax m (fun i => dg p i t) fun i => dg p i u) i) % p = tn m (fun i => dg p i t) m (fun i => dg p i x) (fun i => dg p i y) i % p := fun i hi => by
      rw [← hd i hi, h2 i, h1 i]
      show _ = (dg p i tt + (dg p 0 o * dg p i u + tn m (fun i => dg p i t) k (fun j => dg p (j + 1) o) (yax m (fun i => dg p i t) fun i => dg p i u) i)) % p
      rw [ycg, ybi, ← Nat.add_assoc]
      refine ybl ?_ rfl
      rw [Nat.mod_mod]
      exact ybl rfl (Nat.mod_mod _ _)
    walk_at "rd"
    refine ⟨⟨by show (0 : Int) < p; omega, by show (p : Int) < 2 ^ 64; omega⟩, ?_⟩
    walk_at "rd"
    refine ite2 (fun c2 => ?_) (fun c2 => ?_)
    · walk_at "rd"
      refine ⟨a, p, m, t, u, rfl, hF, hp, hm, hpm, ht, hu, fun r3 h3 => ?_⟩
      have hr3 : r3 < p ^ m := zbU hp fun i hi => by rw [h3 i]; unfold yax; rw [if_neg (by omega)]; simp
      refine ⟨rfl, o / p, r3, r2, rfl, rfl, hr3, hr2, fun i hi => ?_⟩
      rw [← hd2 i hi]
      exact ybl rfl (zbp hm k _ _ _ (fun j _ => by rw [h3 j, Nat.mod_mod]) i hi)
    · have c3 : o / p = 0 := by have := of_decide_eq_false (Bool.eq_false_iff.mpr c2); exact Nat.le_zero.mp (Int.ofNat_le.mp (show ((o / p : Nat) : Int) ≤ ((0 : Nat) : Int) from Int.not_lt.mp this))
      refine ⟨rfl, o / p, u, r2, rfl, rfl, hu, hr2, fun i hi => ?_⟩
      rw [← hd2 i hi, c3, yb8 k _ _ i (fun j => zbq p j), yb8 k _ _ i (fun j => zbq p j)]
  · have c' : o = 0 := by have := of_decide_eq_false (Bool.eq_false_iff.mpr c); omega
    refine ⟨_, rfl, q tt htt fun i hi => ?_⟩
    rw [← hd i hi, c', yb8 k _ _ i (fun j => zbq p j), Nat.add_zero, zfi]
end
end My
end
section
-- text: P2
set_option Elab.async false
set_option linter.all false
set_option maxRecDepth 100000
set_option maxHeartbeats 4000000
namespace My
open PySem L2 Dg
local macro_rules | `(tactic| walk_at "rd") => `(tactic| repeat (first | refine ⟨_, rfl, ?_⟩ | refine ⟨_, _, rfl, rfl, ?_⟩))
theorem yac {H : Hp} {p : Addr} (h : H p = none) (o : HO) : Same H (upd H p o) := fun b u q => by rw [zag (zaf q h)]; exact q
noncomputable abbrev Vn (n : Nat) : V := .int (n : Int)
noncomputable def Pu (H : Hp) (a g : Addr) : Prop := ∃ (ns : List Nat) (s t : Nat), H a = some (.lst [.ref g, Vn s, Vn t]) ∧ H g = some (.lst (ns.map Vn))
theorem Pu.ne {H : Hp} {a g : Addr} (h : Pu H a g) : a ≠ g := by
  obtain ⟨ns, s, t, h1, h2⟩ := h
  intro e; subst e; rw [h1] at h2
  have h3 := HO.lst.inj (Option.some.inj h2)
  cases ns with
  | nil => cases h3
  | cons n ns => cases h3
noncomputable def yaq (a g : Addr) (H H' : Hp) : Prop := ∀ b o, b ≠ a → b ≠ g → H b = some o → H' b = some o
theorem yaq.refl {a g : Addr} {H : Hp} : yaq a g H H := fun _ _ _ _ e => e
theorem yaq.trans {a g : Addr} {H H1 H2 : Hp} (h1 : yaq a g H H1) (h2 : yaq a g H1 H2) : yaq a g H H2 := fun b o n1 n2 e => h2 b o n1 n2 (h1 b o n1 n2 e)
theorem Same.x {a g : Addr} {H H1 : Hp} (h : Same H H1) : yaq a g H H1 := fun b o _ _ e => h b o e
theorem Pu.same {H H' : Hp} {a g : Addr} (h : Pu H a g) (s : Same H H') : Pu H' a g := by
  obtain ⟨ns, x, t, h1, h2⟩ := h
  exact ⟨ns, x, t, s _ _ h1, s _ _ h2⟩
theorem szl (n : Nat) (h : n ≤ 100000 := by omega) : n ≤ sizeLine := by rw [sizeLine_eq]; omega
section
variable {P : Program} {w : World} {K : PySem.W.Frag} {mg : Str → Option Value} {base : Heap} {f : Addr} {fd : FuncData}
theorem yaM : yaj ["_law_one", "_law_many", "_law_found", "_law_turn"] ["_law_one", "_law_many"] (zae zbn) := ⟨rfl, rfl, rfl, by decide +kernel, rfl, by decide +kernel, by decide +kernel⟩
theorem zeF (B : Bl mg) (F : Fun K "_law_raised" "_law_raised" zbn f fd) : FnOk P w K mg base CX0 1 f fd ["_law_one", "_law_many"] yal := by
  refine F.ok yaM (fun vs H Q E h => ?_) (fun cdv A outer s H vs Q E hr h => ?_)
  · obtain ⟨b, k, rfl, _⟩ := h; rfl
  obtain ⟨b, k, rfl, hb, hk, q⟩ := h
  refine ⟨_, (@yaa _ _ _ _ _ (@yag _ _ 2 _ _ _ _ yaM.nd rfl (Or.inl rfl) yab (by rfl) (by first | exact .inl rfl | exact .inr rfl | assumption)) (@yaa _ _ _ _ _ (@zaG _ _ _ _ _ _ _ _ PassesOwn.never rfl (@zaD _ _ _ _ _ _ rfl (B "range" (by decide)) (@zaa _ _ _ _ _ (pv 1) zab (by rfl)) (by rfl)) (@yae _ _ 3 _ yaM.nd rfl (Or.inl rfl) (by first | exact .inl rfl | exact .inr rfl | assumption)) (@zad _ _ _ (@yag _ _ 2 _ _ _ _ yaM.nd rfl (Or.inl rfl) (@zah _ _ _ _ _ _ _ _ yaK (pv 2) (pv 0)) (by rfl) (by first | exact .inl rfl | exact .inr rfl | assumption))) (by intro _; rfl)) (@zad _ _ _ (@zaj _ _ _ _ (pv 2))))), ?_⟩
  refine ⟨_, rfl, k, rfl, by omega, by omega, yaw (n := k) (fun i σ H' => H' = H ∧ ∃ s, σ = [some (.int b), some (.int k), some (.int ((b ^ i : Nat) : Int)), s]) ⟨rfl, none, rfl⟩ ?_ ?_⟩
  · rintro i σ H' hi ⟨rfl, s, rfl⟩
    walk_at "rd"
    refine ⟨.inr ⟨by omega, by omega⟩, rfl, some (.int (0 + (i : Int))), ?_⟩
    rw [Nat.pow_succ]; rfl
  · rintro σ H' ⟨rfl, s, rfl⟩
    exact ⟨_, rfl, q⟩
noncomputable def digL (p m x : Nat) : List V := (List.range m).map fun i => Vn (dg p i x)
theorem yd6 (p m x : Nat) : digL p (m + 1) x = digL p m x ++ [Vn (dg p m x)] := by unfold digL; rw [List.range_succ, List.map_append]; rfl
theorem zbk (p m x : Nat) : (digL p m x).length = m := by simp [digL]
noncomputable def ydd (K : PySem.W.Frag) : Sp := fun vs H Q _ => ∃ (a : Addr) (p m t x : Nat), vs = [.ref a, .int x] ∧ Fld K H a p m t ∧ 2 ≤ p ∧ p ≤ 64 ∧ m ≤ 64 ∧ ∀ r H', H r = none → Same H H' → H' r = some (.lst (digL p m x)) → Q (.ref r) H'
theorem yaN : yaj ["_law_field_here", "_law_thing", "_law_found", "_law_k"] ["_law_field_here", "_law_thing"] (zae ybh) := ⟨rfl, rfl, rfl, by decide +kernel, rfl, by decide +kernel, by decide +kernel⟩
theorem zeH (B : Bl mg) (F : Fun K "_law_digits" "_law_digits" ybh f fd) : FnOk P w K mg base CX0 1 f fd ["_law_field_here", "_law_thing"] (ydd K) := by
  refine F.ok yaN (fun vs H Q E h => ?_) (fun cdv A outer s H vs Q E hr h => ?_)
  · obtain ⟨a, p, m, t, x, rfl, _⟩ := h; rfl
  obtain ⟨a, p, m, t, x, rfl, hF, hp, hp2, hm, q⟩ := h
  refine ⟨_, (@yaa _ _ _ _ _ (@yag _ _ 2 _ _ _ _ yaN.nd rfl (Or.inl rfl) (@zaR _ _ _ _ zab) (by rfl) (by first | exact .inl rfl | exact .inr rfl | assumption)) (@yaa _ _ _ _ _ (@zaG _ _ _ _ _ _ _ _ PassesOwn.never rfl (@zaD _ _ _ _ _ _ rfl (B "range" (by decide)) (@zaa _ _ _ _ _ (@zao _ _ _ _ _ _ _ zav (pv 0) yab (fun _ _ => rfl)) zab (by rfl)) (by rfl)) (@yae _ _ 3 _ yaN.nd rfl (Or.inl rfl) (by first | exact .inl rfl | exact .inr rfl | assumption)) (@yaa _ _ _ _ _ (@yby _ _ _ _ (@zc8 _ _ _ _ _ _ _ _ _ _ _ _ PySem.F.plainAttrs_list PySem.F.slot_list_append PySem.F.type_list_append yaY (pv 2) (@zaa _ _ _ _ _ (@zah _ _ _ _ _ _ _ _ zat (pv 1) (@zao _ _ _ _ _ _ _ zav (pv 0) yab (fun _ _ => rfl))) zab (by rfl)) (by rfl) (by rfl) (by rfl) (by rfl) (by rfl)) (by rfl)) (@zad _ _ _ (@yag _ _ 1 _ _ _ _ yaN.nd rfl (Or.inl rfl) (@zah _ _ _ _ _ _ _ _ zc1 (pv 1) (@zao _ _ _ _ _ _ _ zav (pv 0) yab (fun _ _ => rfl))) (by rfl) (by first | exact .inl rfl | exact .inr rfl | assumption)))) (by intro _; rfl)) (@zad _ _ _ (@zaj _ _ _ _ (pv 2))))), ?_⟩
  refine ⟨szl 0, fun l hl => ?_⟩
  have g1 : Same H (upd H l (.lst [])) := yac hl _
  refine ⟨_, rfl, a, _, _, _, rfl, rfl, Same.tup g1 hF, rfl, m, rfl, by omega, by omega, yaw (n := m) (fun i σ H' => H' = upd H l (.lst (digL p i x)) ∧ ∃ s, σ = [some (.ref a), some (.int ((x / p ^ i : Nat) : Int)), some (.ref l), s]) ⟨rfl, none, by simp; rfl⟩ ?_ ?_⟩
  · rintro i σ H' hi ⟨rfl, s, rfl⟩
    have g2 : Same H (upd H l (.lst (digL p i x))) := yac hl _
    refine ⟨_, rfl, .inl ⟨rfl, _, SqL.of zac⟩, ?_⟩
    walk_at "rd"
    refine ⟨a, _, _, _, rfl, rfl, Same.tup g2 hF, rfl, ?_⟩
    walk_at "rd"
    refine ⟨by show (0 : Int) < p; omega, l, _, _, rfl, rfl, zac, by rw [zbk]; exact Nat.lt_of_le_of_lt (show i ≤ 1000 by omega) (zak (Nat.le_refl _)), ?_⟩
    rw [zcH]
    have g3 : Same H (upd H l (.lst (digL p (i + 1) x))) := yac hl _
    have e1 : digL p i x ++ [V.int (((x / p ^ i : Nat) : Int) % (p : Int))] = digL p (i + 1) x := by rw [yd6]; rfl
    rw [e1]
    refine ⟨_, rfl, _, rfl, a, _, _, _, rfl, rfl, Same.tup g3 hF, rfl, ?_⟩
    walk_at "rd"
    refine ⟨⟨by show (0 : Int) < p; omega, by show (p : Int) < 2 ^ 64; omega⟩, rfl, some (.int (0 + (i : Int))), ?_⟩
    rw [Nat.pow_succ, ← Nat.div_div_eq_div_mul]; rfl
  · rintro σ H' ⟨rfl, s, rfl⟩
    exact ⟨_, rfl, q l _ hl (yac hl _) zac⟩
noncomputable def num (p : Nat) : List Nat → Nat
  | [] => 0
  | d :: ds => num p ds * p + d
theorem zem {p : Nat} (hp : 2 ≤ p) : ∀ (ds : List Nat), (∀ d ∈ ds, d < p) → ∀ i, dg p i (num p ds) = ds.getD i 0
  | [], _, i => by simp [num, zbq]
  | d :: ds, h, i => by
    have hd : d < p := h d List.mem_cons_self
    have ih := zem hp ds fun x hx => h x (List.mem_cons_of_mem _ hx)
    cases i with
    | zero => rw [ybi]; show (num p ds * p + d) % p = d; rw [Nat.mul_comm, Nat.mul_add_mod, Nat.mod_eq_of_lt hd]
    | succ i =>
      rw [ybw]
      show dg p i ((num p ds * p + d) / p) = ds.getD i 0
      rw [Nat.mul_comm, Nat.mul_add_div (by omega), Nat.div_eq_of_lt hd, Nat.add_zero]
      exact ih i
noncomputable def zde (K : PySem.W.Frag) : Sp := fun vs H Q _ => ∃ (a b : Addr) (p m t : Nat) (ds : List Nat), vs = [.ref a, .ref b] ∧ Fld K H a p m t ∧ 2 ≤ p ∧ p ≤ 64 ∧ SqL K H b (ds.map Vn) ∧ ∀ H', Same H H' → Q (Vn (num p ds)) H'
theorem zaO : yaj ["_law_field_here", "_law_digits_here", "_law_found", "_law_digit"] ["_law_field_here", "_law_digits_here"] (zae zbh) := ⟨rfl, rfl, rfl, by decide +kernel, rfl, by decide +kernel, by decide +kernel⟩
theorem zew (B : Bl mg) (F : Fun K "_law_number" "_law_number" zbh f fd) : FnOk P w K mg base CX0 1 f fd ["_law_field_here", "_law_digits_here"] (zde K) := by
  refine F.ok zaO (fun vs H Q E h => ?_) (fun cdv A outer s H vs Q E hr h => ?_)
  · obtain ⟨a, b, p, m, t, ds, rfl, _⟩ := h; rfl
  obtain ⟨a, b, p, m, t, ds, rfl, hF, hp, hp2, hb, q⟩ := h
  refine ⟨_, (@yaa _ _ _ _ _ (@yag _ _ 2 _ _ _ _ zaO.nd rfl (Or.inl rfl) yab (by rfl) (by first | exact .inl rfl | exact .inr rfl | assumption)) (@yaa _ _ _ _ _ (@zaG _ _ _ _ _ _ _ _ PassesOwn.never rfl (@zbv _ _ _ _ (@zfN _ _ _ _ _ _ _ _ (pv 1))) (@yae _ _ 3 _ zaO.nd rfl (Or.inl rfl) (by first | exact .inl rfl | exact .inr rfl | assumption)) (@zad _ _ _ (@yag _ _ 2 _ _ _ _ zaO.nd rfl (Or.inl rfl) (@zah _ _ _ _ _ _ _ _ yay (@zah _ _ _ _ _ _ _ _ yaK (pv 2) (@zao _ _ _ _ _ _ _ zav (pv 0) yab (fun _ _ => rfl))) (pv 3)) (by rfl) (by first | exact .inl rfl | exact .inr rfl | assumption))) (by intro _; rfl)) (@zad _ _ _ (@zaj _ _ _ _ (pv 2))))), ?_⟩
  refine ⟨_, rfl, b, _, rfl, hb, fun l hl => ?_⟩
  have g1 : Same H (upd H l (.lst (ds.map Vn).reverse)) := yac hl _
  refine ⟨l, rfl, ⟨_, SqL.of zac⟩, ydH (xs := (ds.map Vn).reverse) (fun i σ H' => H' = upd H l (.lst (ds.map Vn).reverse) ∧ ∃ s, σ = [some (.ref a), some (.ref b), some (Vn (num p (ds.drop (ds.length - i)))), s]) ⟨rfl, none, by rw [Nat.sub_zero, List.drop_length]; rfl⟩ ?_ ?_ ?_⟩
  · rintro i σ H' hi ⟨rfl, _⟩; exact SqL.of zac
  · rintro i x σ H' hx ⟨rfl, s, rfl⟩
    have hi : i < ds.length := by have := (List.getElem?_eq_some_iff.mp hx).1; simpa using this
    have ex : x = Vn (ds[ds.length - 1 - i]) := by
      rw [List.getElem?_reverse (by simpa using hi), List.getElem?_map, List.length_map, List.getElem?_eq_getElem (by omega)] at hx
      exact (Option.some.inj hx).symm
    subst ex
    walk_at "rd"
    refine ⟨a, _, _, _, rfl, rfl, Same.tup g1 hF, rfl, ?_⟩
    walk_at "rd"
    refine ⟨.inr ⟨by show -(2 ^ 64 : Int) < (p : Int); omega, by show (p : Int) < 2 ^ 64; omega⟩, ?_⟩
    walk_at "rd"
    refine ⟨rfl, some (Vn (ds[ds.length - 1 - i])), ?_⟩
    have e : ds.drop (ds.length - (i + 1)) = ds[ds.length - 1 - i] :: ds.drop (ds.length - i) := by
      rw [show ds.length - (i + 1) = ds.length - 1 - i by omega, List.drop_eq_getElem_cons (by omega)]
      congr 2; omega
    rw [e]; rfl
  · rintro σ H' ⟨rfl, s, rfl⟩
    refine ⟨_, rfl, ?_⟩
    have e : ds.length - (ds.map Vn).reverse.length = 0 := by simp
    rw [e, List.drop_zero]
    exact q _ g1
noncomputable def zdD (K : PySem.W.Frag) : Sp := fun vs H Q _ => ∃ (a : Addr) (ns : List Int), vs = [.ref a] ∧ SqL K H a (ns.map V.int) ∧ ∀ r g H', H r = none → H g = none → Same H H' → Pu H' r g → Q (.ref r) H'
theorem yaV : yaj ["_law_script", "_law_seed", "_law_great", "_law_cell"] ["_law_script"] (zae ybx) := ⟨rfl, rfl, rfl, by decide +kernel, rfl, by decide +kernel, by decide +kernel⟩
theorem yfg {i : Int} (h : 0 ≤ i) : ∃ n : Nat, V.int i = Vn n := by obtain ⟨n, e⟩ := Int.eq_ofNat_of_zero_le h; exact ⟨n, by rw [e]⟩
theorem zeY (B : Bl mg) (F : Fun K "_law_purse" "_law_purse" ybx f fd) : FnOk P w K mg base CX0 1 f fd ["_law_script"] (zdD K) := by
  refine F.ok yaV (fun vs H Q E h => ?_) (fun cdv A outer s H vs Q E hr h => ?_)
  · obtain ⟨a, ns, rfl, _⟩ := h; rfl
  obtain ⟨a, ns, rfl, ha, q⟩ := h
  refine ⟨_, (@yaa _ _ _ _ _ (@zct _ _ 1 2 _ _ _ _ _ _ _ _ _ _ _ rfl yaV.nd rfl rfl (by decide) rfl rfl (@zaa _ _ _ _ _ yab (@zaa _ _ _ _ _ (@zaR _ _ _ _ zab) zab (by rfl)) (by rfl)) rfl (by rfl)) (@yaa _ _ _ _ _ (@zaG _ _ _ _ _ _ _ _ PassesOwn.never rfl (@zbv _ _ _ _ (@yb5 _ _ _ _ _ _ _ _ _ _ yeL (pv 0) zcO (@zcJ _ _ _ yab))) (@yae _ _ 3 _ yaV.nd rfl (Or.inl rfl) (by first | exact .inl rfl | exact .inr rfl | assumption)) (@yaa _ _ _ _ _ (@yag _ _ 1 _ _ _ _ yaV.nd rfl (Or.inl rfl) (@zah _ _ _ _ _ _ _ _ zat (@zah _ _ _ _ _ _ _ _ yay (@zah _ _ _ _ _ _ _ _ yay (@zah _ _ _ _ _ _ _ _ yaK (pv 1) yab) (@zah _ _ _ _ _ _ _ _ zat (pv 3) yab)) yab) yab) (by rfl) (by first | exact .inl rfl | exact .inr rfl | assumption)) (@zad _ _ _ (@zaC _ _ _ _ _ _ _ _ (@zai _ _ _ _ _ _ _ _ yga (@yai _ _ _ _ _ _ _ _ _ zdB rfl (B "abs" (by decide)) ycc (@zaa _ _ _ _ _ (pv 3) zab (by rfl)) (by decide) (by decide) (by rfl) (by rfl)) (@zah _ _ _ _ _ _ _ _ ydN yab yab) (zam _)) (@zad _ _ _ (@yby _ _ _ _ (@zc8 _ _ _ _ _ _ _ _ _ _ _ _ PySem.F.plainAttrs_list PySem.F.slot_list_append PySem.F.type_list_append yaY (pv 2) (@zaa _ _ _ _ _ (@zah _ _ _ _ _ _ _ _ zat (@yai _ _ _ _ _ _ _ _ _ zdB rfl (B "abs" (by decide)) ycc (@zaa _ _ _ _ _ (pv 3) zab (by rfl)) (by decide) (by decide) (by rfl) (by rfl)) (@zah _ _ _ _ _ _ _ _ zfD (@zah _ _ _ _ _ _ _ _ ydN yab yab) (@zah _ _ _ _ _ _ _ _ ydN yab yab))) zab (by rfl)) (by rfl) (by rfl) (by rfl) (by rfl) (by rfl)) (by rfl))) yam))) (by intro _; rfl)) (@zad _ _ _ (@zaj _ _ _ _ (@zaR _ _ _ _ (@zaa _ _ _ _ _ (pv 2) (@zaa _ _ _ _ _ (pv 1) (@zaa _ _ _ _ _ yab zab (by rfl)) (by rfl)) (by rfl))))))), ?_⟩
  refine ⟨szl 0, fun g hg => ?_⟩
  have g1 : Same H (upd H g (.lst [])) := yac hg _
  refine ⟨_, _, rfl, ?_⟩
  refine ⟨_, rfl, _, rfl, a, _, rfl, g1.seq ha, fun l hl => ?_⟩
  generalize hcut : cutV (ns.map V.int) none (some 40) = cs
  have hcs : ∀ x ∈ cs, ∃ i : Int, x = .int i := fun x hx => by
    rw [← hcut] at hx
    unfold cutV at hx
    obtain ⟨i, _, e⟩ := List.mem_map.mp (List.mem_of_mem_drop (List.mem_of_mem_take hx))
    exact ⟨i, e.symm⟩
  have hlen : cs.length ≤ 40 := by
    rw [← hcut]; unfold cutV
    rw [List.length_take, show HT.sIx (ns.map V.int).length (ns.map V.int).length (some 40) = min 40 (ns.map V.int).length from HT.sIx_nat _ _ 40]
    omega
  have hgl : l ≠ g := fun e => by rw [e, zac] at hl; cases hl
  refine ⟨l, rfl, ⟨_, SqL.of zac⟩, ydH (xs := cs) (fun i σ H' => (∃ (s : Nat) (x : Option V) (gs : List Nat), gs.length ≤ i ∧ σ = [some (.ref a), some (Vn s), some (.ref g), x] ∧ H' g = some (.lst (gs.map Vn))) ∧ Same H H' ∧ H' l = some (.lst cs))
    ⟨⟨7, none, [], Nat.le_refl _, rfl, by rw [zag (Ne.symm hgl)]; exact zac⟩, g1.trans (yac hl _), zac⟩ ?_ ?_ ?_⟩
  · rintro i σ H' hi ⟨_, _, h⟩; exact SqL.of h
  · rintro i x σ H' hx ⟨⟨s, x0, gs, hgs, rfl, hg'⟩, sm, hl'⟩
    obtain ⟨c, rfl⟩ := hcs x (List.mem_of_getElem? hx)
    have hi : i < cs.length := (List.getElem?_eq_some_iff.mp hx).1
    walk_at "rd"
    refine ⟨.inr ⟨by decide, by decide⟩, ?_⟩
    walk_at "rd"
    refine ⟨by show (0 : Int) < 2305843009213693951; decide, ?_⟩
    walk_at "rd"
    refine ⟨by show (0 : Int) < 2305843009213693951; decide, ?_⟩
    obtain ⟨s', es⟩ := yfg (i := ((s : Int) * 1000003 + c % 2305843009213693951 + 12345) % 2305843009213693951) (Int.emod_nonneg _ (by decide))
    dsimp only [yaC]; rw [es]
    refine ⟨_, rfl, _, rfl, _, _, rfl, rfl, ⟨by decide, by decide, by decide⟩, ?_⟩
    refine ⟨_, _, rfl, rfl, _, rfl, ?_⟩
    refine ite2 (fun c2 => ?_) (fun c2 => ?_)
    · refine ⟨_, rfl, .inl ⟨rfl, _, SqL.of hg'⟩, ?_⟩
      refine ⟨_, rfl, _, rfl, _, _, rfl, rfl, ⟨by decide, by decide, by decide⟩, ?_⟩
      refine ⟨_, _, rfl, rfl, ⟨by decide, by decide, by decide⟩, ?_⟩
      refine ⟨_, _, rfl, rfl, IntMulOk.of_bits (by decide +kernel) (by decide +kernel), ?_⟩
      refine ⟨_, _, rfl, rfl, by show (0 : Int) < 10 ^ Int.toNat 60 * 10 ^ Int.toNat 60; decide +kernel, ?_⟩
      obtain ⟨d, ed⟩ := yfg (i := (if c < 0 then -c else c) % (10 ^ (60 : Int).toNat * 10 ^ (60 : Int).toNat)) (Int.emod_nonneg _ (by decide))
      dsimp only; rw [ed]
      refine ⟨g, _, _, rfl, rfl, hg', ?_, ⟨s', some (.int c), gs ++ [d], by simp; omega, rfl, by rw [zac, List.map_append]; rfl⟩, ?_, ?_⟩
      · rw [List.length_map]; exact Nat.lt_of_le_of_lt (show gs.length ≤ 1000 by omega) (zak (Nat.le_refl _))
      · intro b o e
        rw [zag (zaf e hg)]
        exact sm b o e
      · rw [zag hgl]; exact hl'
    · exact ⟨⟨s', some (.int c), gs, by omega, rfl, hg'⟩, sm, hl'⟩
  · rintro σ H' ⟨⟨s, x, gs, hgs, rfl, hg'⟩, sm, _⟩
    refine ⟨_, rfl, _, rfl, szl 3, fun r hr => ?_⟩
    have ne : g ≠ r := zaf hg' hr
    refine q r g _ (sm.free hr) hg (sm.trans (yac hr _)) ⟨gs, s, 0, zac, ?_⟩
    rw [zag ne]; exact hg'
theorem ycO {α : Type} (x : α) (xs : List α) : atI (x :: xs) 0 = some x := ybk (j := 0) rfl
theorem ydB {n : Nat} (h : 0 < n) : ixN n 0 = some 0 := by
  unfold ixN
  rw [if_pos (by decide), if_pos (by omega)]; rfl
theorem ya9 {t u : TS} {D : Ends} {σ : St} {H : Hp} (Ex : St → Hp → Prop) (r : ∀ σ' H', Ex σ' H' → u D σ' H') (h : ∀ D' : Ends, D'.rt = D.rt → D'.bk = D.bk → D'.ct = D.ct → (∀ σ' H', Ex σ' H' → D'.nx σ' H') → t D' σ H) : tSeq t u D σ H := h _ rfl rfl rfl r
noncomputable def ycK : Sp := fun vs H Q _ => ∃ (a g : Addr) (n : Nat), vs = [.ref a, Vn n] ∧ Pu H a g ∧ 0 < n ∧ n < 2 ^ 200 ∧ ∀ (r : Nat) H', r < n → Pu H' a g → yaq a g H H' → Q (Vn r) H'
noncomputable def ycq (H : Hp) (g : Addr) : Nat := match H g with
  | some (.lst xs) => xs.length
  | _ => 0
theorem ya0 {H : Hp} {g : Addr} {xs : List V} (h : H g = some (.lst xs)) : ycq H g = xs.length := by unfold ycq; rw [h]
theorem modn {x : Int} {n : Nat} (h : 0 < n) : ∃ r : Nat, r < n ∧ V.int (x % (n : Int)) = Vn r := by
  have h1 := Int.emod_nonneg x (show (n : Int) ≠ 0 by omega)
  have h2 := Int.emod_lt_of_pos x (show (0 : Int) < n by omega)
  exact ⟨(x % (n : Int)).toNat, by omega, by show V.int _ = V.int _; congr 1; omega⟩
theorem yaG : yaj ["_law_purse_here", "_law_many", "_law_digit", "_law_turn", "_law_prime", "_law_once", "_law_mixed"] ["_law_purse_here", "_law_many"] (zae ybH) := ⟨rfl, rfl, rfl, by decide +kernel, rfl, by decide +kernel, by decide +kernel⟩
theorem zfA (B : Bl mg) (F : Fun K "_law_pick" "_law_pick" ybH f fd) : FnOk P w K mg base CX0 1 f fd ["_law_purse_here", "_law_many"] ycK := by
  refine F.ok yaG (fun vs H Q E h => ?_) (fun cdv A outer s H vs Q E hr h => ?_)
  · obtain ⟨a, g, n, rfl, _⟩ := h; rfl
  obtain ⟨a, g, n, rfl, hP, hn, hn2, q⟩ := h
  have nag := hP.ne
  refine ⟨_, (@yaa _ _ _ _ _ (@zaJ _ _ _ _ _ _ PassesOwn.never (@PW.pt _ _ _ (@ydK _ _ _ _ _ _ _ (@zai _ _ _ _ _ _ _ _ (yff hr.units0) (@zao _ _ _ _ _ _ _ zaq (pv 0) yab (fun _ _ => rfl)) (@zaR _ _ _ _ zab) (zam _)) (@zdw _ _ _ _ (@zai _ _ _ _ _ _ _ _ zbx (@zao _ _ _ _ _ _ _ zaq (@zao _ _ _ _ _ _ _ zaq (pv 0) yab (fun _ _ => rfl)) yab (fun _ _ => rfl)) yab (zam _))))) (@zad _ _ _ (@yby _ _ _ _ (@zc8 _ _ _ _ _ _ _ _ _ _ _ _ PySem.F.plainAttrs_list PySem.F.slot_list_pop PySem.F.type_list_pop ye7 (@zao _ _ _ _ _ _ _ zaq (pv 0) yab (fun _ _ => rfl)) (@zaa _ _ _ _ _ yab zab (by rfl)) (by rfl) (by rfl) (by rfl) (by rfl) (by rfl)) (by rfl)))) (@yaa _ _ _ _ _ (@zaC _ _ _ _ _ _ _ _ (@zai _ _ _ _ _ _ _ _ (yff hr.units0) (@zao _ _ _ _ _ _ _ zaq (pv 0) yab (fun _ _ => rfl)) (@zaR _ _ _ _ zab) (zam _)) (@yaa _ _ _ _ _ (@yag _ _ 2 _ _ _ _ yaG.nd rfl (Or.inl rfl) (@zah _ _ _ _ _ _ _ _ zat (@zao _ _ _ _ _ _ _ zaq (@zao _ _ _ _ _ _ _ zaq (pv 0) yab (fun _ _ => rfl)) yab (fun _ _ => rfl)) (pv 1)) (by rfl) (by first | exact .inl rfl | exact .inr rfl | assumption)) (@yaa _ _ _ _ _ (@yaS _ _ _ _ _ _ (@zah _ _ _ _ _ _ _ _ zft (@zao _ _ _ _ _ _ _ zaq (@zao _ _ _ _ _ _ _ zaq (pv 0) yab (fun _ _ => rfl)) yab (fun _ _ => rfl)) (pv 1)) (@ydO _ _ _ _ _ _ _ (@zao _ _ _ _ _ _ _ zaq (pv 0) yab (fun _ _ => rfl)) yab zb3 (by intro _; rfl)) (by rfl) (by rfl) (by rfl)) (@zad _ _ _ (@zaj _ _ _ _ (pv 2))))) yam) (@yaa _ _ _ _ _ (@yaS _ _ _ _ _ _ (@zah _ _ _ _ _ _ _ _ yay (@zao _ _ _ _ _ _ _ zaq (pv 0) yab (fun _ _ => rfl)) yab) (@ydO _ _ _ _ _ _ _ (pv 0) yab zb3 (by intro _; rfl)) (by rfl) (by rfl) (by rfl)) (@yaa _ _ _ _ _ (@yag _ _ 3 _ _ _ _ yaG.nd rfl (Or.inl rfl) (@zao _ _ _ _ _ _ _ zaq (pv 0) yab (fun _ _ => rfl)) (by rfl) (by first | exact .inl rfl | exact .inr rfl | assumption)) (@yaa _ _ _ _ _ (@yag _ _ 4 _ _ _ _ yaG.nd rfl (Or.inl rfl) (@zao _ _ _ _ _ _ _ zaq (@zaR _ _ _ _ (@zaa _ _ _ _ _ yab (@zaa _ _ _ _ _ yab (@zaa _ _ _ _ _ yab (@zaa _ _ _ _ _ yab (@zaa _ _ _ _ _ yab (@zaa _ _ _ _ _ yab (@zaa _ _ _ _ _ yab zab (by rfl)) (by rfl)) (by rfl)) (by rfl)) (by rfl)) (by rfl)) (by rfl))) (@zah _ _ _ _ _ _ _ _ zat (pv 3) yab) (fun _ _ => rfl)) (by rfl) (by first | exact .inl rfl | exact .inr rfl | assumption)) (@yaa _ _ _ _ _ (@yag _ _ 5 _ _ _ _ yaG.nd rfl (Or.inl rfl) (@zah _ _ _ _ _ _ _ _ zat (@zah _ _ _ _ _ _ _ _ yay (@zao _ _ _ _ _ _ _ zaq (pv 0) yab (fun _ _ => rfl)) (@zah _ _ _ _ _ _ _ _ yaK yab (pv 3))) yab) (by rfl) (by first | exact .inl rfl | exact .inr rfl | assumption)) (@yaa _ _ _ _ _ (@yag _ _ 6 _ _ _ _ yaG.nd rfl (Or.inl rfl) (@zah _ _ _ _ _ _ _ _ yaK (@zah _ _ _ _ _ _ _ _ zat (@zah _ _ _ _ _ _ _ _ ydN (pv 5) yab) yab) (@zah _ _ _ _ _ _ _ _ yay (@zah _ _ _ _ _ _ _ _ yaK yab (pv 3)) yab)) (by rfl) (by first | exact .inl rfl | exact .inr rfl | assumption)) (@zad _ _ _ (@zaj _ _ _ _ (@zah _ _ _ _ _ _ _ _ zat (@zah _ _ _ _ _ _ _ _ zc1 (@zah _ _ _ _ _ _ _ _ zat (@zah _ _ _ _ _ _ _ _ yay (pv 6) (@zah _ _ _ _ _ _ _ _ zc1 (@zao _ _ _ _ _ _ _ zaq (pv 0) yab (fun _ _ => rfl)) yab)) (pv 4)) yab) (pv 1))))))))))), ?_⟩
  refine ya9 (fun σ H' => σ = [some (.ref a), some (Vn n), none, none, none, none, none] ∧ Pu H' a g ∧ yaq a g H H') ?_ ?_
  · rintro σ H' ⟨rfl, ⟨ns, x, t, ha, hg⟩, sm⟩
    refine ya9 (fun σ H1 => ns = [] ∧ σ = [some (.ref a), some (Vn n), none, none, none, none, none] ∧ H1 a = some (.lst [.ref g, Vn x, Vn t]) ∧ H1 g = some (.lst []) ∧ yaq a g H H1) ?_ ?_
    · rintro σ H1 ⟨rfl, rfl, ha, hg, sm⟩
      refine ⟨_, rfl, a, _, _, _, rfl, rfl, SqL.of ha, rfl, ?_⟩
      refine ⟨_, _, rfl, rfl, ?_⟩
      refine ⟨_, rfl, a, _, 2, 2, rfl, rfl, ha, rfl, ?_⟩
      have h1 : (upd H1 a (.lst [.ref g, Vn x, .int ((t : Int) + 1)])) a = some (.lst [.ref g, Vn x, Vn (t + 1)]) := zac
      have h2 : (upd H1 a (.lst [.ref g, Vn x, .int ((t : Int) + 1)])) g = some (.lst []) := by rw [zag (Ne.symm nag)]; exact hg
      have h3 : yaq a g H (upd H1 a (.lst [.ref g, Vn x, .int ((t : Int) + 1)])) := fun b o n1 n2 e => by rw [zag n1]; exact sm b o n1 n2 e
      change tSeq _ _ _ _ (upd H1 a (.lst [.ref g, Vn x, .int ((t : Int) + 1)]))
      generalize upd H1 a (.lst [.ref g, Vn x, .int ((t : Int) + 1)]) = H2 at h1 h2 h3 ⊢
      refine ⟨_, rfl, a, _, _, _, rfl, rfl, SqL.of h1, rfl, ?_⟩
      refine ⟨szl 7, fun l hl => ?_⟩
      have nla : a ≠ l := zaf h1 hl
      have nlg : g ≠ l := zaf h2 hl
      refine ⟨_, rfl, _, _, rfl, rfl, by show (0 : Int) < 7; decide, ?_⟩
      obtain ⟨k, hk, ek⟩ := modn (x := ((t + 1 : Nat) : Int)) (n := 7) (by omega)
      have hprime : ∃ pr : Nat, 61 < pr ∧ atI [V.int 2147483629, .int 2147483587, .int 2147483579, .int 2147483563, .int 2147483549, .int 2147483543, .int 2147483497] (k : Int) = some (Vn pr) := by
        have : k = 0 ∨ k = 1 ∨ k = 2 ∨ k = 3 ∨ k = 4 ∨ k = 5 ∨ k = 6 := by omega
        rcases this with rfl | rfl | rfl | rfl | rfl | rfl | rfl
        · exact ⟨2147483629, by decide, rfl⟩
        · exact ⟨2147483587, by decide, rfl⟩
        · exact ⟨2147483579, by decide, rfl⟩
        · exact ⟨2147483563, by decide, rfl⟩
        · exact ⟨2147483549, by decide, rfl⟩
        · exact ⟨2147483543, by decide, rfl⟩
        · exact ⟨2147483497, by decide, rfl⟩
      obtain ⟨pr, hpr, epr⟩ := hprime
      have ek' : ((t + 1 : Nat) : Int) % (7 : Int) = (k : Int) := by have := V.int.inj ek; exact this
      refine ⟨l, _, k, Vn pr, rfl, ek, SqL.of zac, epr, ?_⟩
      have h1' : (upd H2 l (.lst [V.int 2147483629, .int 2147483587, .int 2147483579, .int 2147483563, .int 2147483549, .int 2147483543, .int 2147483497])) a = some (.lst [.ref g, Vn x, Vn (t + 1)]) := by rw [zag nla]; exact h1
      have h2' : (upd H2 l (.lst [V.int 2147483629, .int 2147483587, .int 2147483579, .int 2147483563, .int 2147483549, .int 2147483543, .int 2147483497])) g = some (.lst []) := by rw [zag nlg]; exact h2
      have h3' : yaq a g H (upd H2 l (.lst [V.int 2147483629, .int 2147483587, .int 2147483579, .int 2147483563, .int 2147483549, .int 2147483543, .int 2147483497])) := h3.trans (Same.x (yac hl _))
      change tSeq _ _ _ _ (upd H2 l (.lst [V.int 2147483629, .int 2147483587, .int 2147483579, .int 2147483563, .int 2147483549, .int 2147483543, .int 2147483497]))
      generalize upd H2 l (.lst [V.int 2147483629, .int 2147483587, .int 2147483579, .int 2147483563, .int 2147483549, .int 2147483543, .int 2147483497]) = H3 at h1' h2' h3' ⊢
      refine ⟨_, rfl, a, _, _, _, rfl, rfl, SqL.of h1', rfl, ?_⟩
      refine ⟨_, rfl, _, _, rfl, rfl, .inl ⟨by decide, by decide⟩, ?_⟩
      refine ⟨_, _, rfl, rfl, ?_⟩
      refine ⟨_, _, rfl, rfl, by show (0 : Int) < 2147483647; decide, ?_⟩
      obtain ⟨on, hon, eon⟩ := modn (x := (x : Int) + 65537 * ((t + 1 : Nat) : Int)) (n := 2147483647) (by decide)
      dsimp only [yaC]
      rw [show V.int (((x : Int) + 65537 * ((t + 1 : Nat) : Int)) % 2147483647) = Vn on from eon]
      refine ⟨_, rfl, _, _, rfl, rfl, ⟨by decide, by decide, by show (on : Int).natAbs < 2 ^ 64; omega⟩, ?_⟩
      refine ⟨_, _, rfl, rfl, by show (0 : Int) < 2147483647; decide, ?_⟩
      obtain ⟨o5, ho5, eo5⟩ := modn (x := (on : Int) ^ (5 : Int).toNat) (n := 2147483647) (by decide)
      refine ⟨_, rfl, _, _, rfl, rfl, .inl ⟨by decide, by decide⟩, ?_⟩
      refine ⟨_, _, rfl, rfl, ?_⟩
      have b5 : (on : Int) ^ (5 : Int).toNat % 2147483647 = (o5 : Int) := V.int.inj eo5
      refine ⟨_, _, rfl, rfl, .inl ⟨by rw [b5]; omega, by rw [b5]; omega⟩, ?_⟩
      refine ⟨_, rfl, _, rfl, a, _, _, _, rfl, rfl, SqL.of h1', rfl, ?_⟩
      refine ⟨_, _, rfl, rfl, ⟨by show (0 : Int) < 2147483647; decide, by show (2147483647 : Int) < 2 ^ 64; decide⟩, ?_⟩
      refine ⟨_, _, rfl, rfl, ?_⟩
      refine ⟨_, rfl, _, _, rfl, rfl, by show (0 : Int) < (pr : Int); omega, ?_⟩
      refine ⟨_, _, rfl, rfl, ⟨by show (0 : Int) < 61; decide, by show (61 : Int) < 2 ^ 64; decide⟩, ?_⟩
      refine ⟨_, rfl, _, _, rfl, rfl, by show (0 : Int) < (n : Int); omega, ?_⟩
      obtain ⟨r, hr', er⟩ := modn (x := ((on : Int) ^ (5 : Int).toNat % 2147483647 * (2 * ((t + 1 : Nat) : Int) + 1) + (x : Int) / 2147483647) % (pr : Int) / 61) hn
      dsimp only
      rw [er]
      exact q r H3 hr' ⟨[], x, t + 1, h1', h2'⟩ h3'
    · intro D' hrt _ _ hD
      refine ⟨_, rfl, a, _, _, _, rfl, rfl, SqL.of ha, rfl, szl 0, fun l hl => ?_⟩
      have nla : a ≠ l := zaf ha hl
      have nlg : g ≠ l := zaf hg hl
      have hg1 : (upd H' l (.lst [])) g = some (.lst (ns.map Vn)) := by rw [zag nlg]; exact hg
      have ha1 : (upd H' l (.lst [])) a = some (.lst [.ref g, Vn x, Vn t]) := by rw [zag nla]; exact ha
      have sm1 : yaq a g H (upd H' l (.lst [])) := sm.trans (Same.x (yac hl _))
      refine ⟨g, l, _, rfl, rfl, SqL.of hg1, SqL.of zac, _, rfl, ?_⟩
      refine ite2 (fun c => ?_) (fun c => ?_)
      · cases ns with
        | nil => exact absurd c (by simp)
        | cons d ns =>
          refine ⟨_, rfl, a, _, _, _, rfl, rfl, SqL.of ha1, rfl, ?_⟩
          refine ⟨g, _, _, _, rfl, rfl, SqL.of hg1, ycO _ _, ?_⟩
          refine ⟨_, rfl, _, _, rfl, rfl, by show (0 : Int) < (n : Int); omega, ?_⟩
          refine ⟨_, rfl, a, _, _, _, rfl, rfl, SqL.of ha1, rfl, ?_⟩
          refine ⟨g, _, _, _, rfl, rfl, SqL.of hg1, ycO _ _, ?_⟩
          refine ⟨_, rfl, _, _, rfl, rfl, ⟨by show (0 : Int) < (n : Int); omega, by show (n : Int) < 2 ^ 1000; omega⟩, ?_⟩
          refine ⟨_, rfl, a, _, _, _, rfl, rfl, SqL.of ha1, rfl, ?_⟩
          refine ⟨g, _, 0, 0, rfl, rfl, hg1, ydB (by simp), ?_⟩
          refine ⟨_, rfl, ?_⟩
          rw [hrt]
          refine q (d % n) _ (Nat.mod_lt _ hn) ⟨(d / n) :: ns, x, t, by rw [zag nag]; exact ha1, zac⟩ fun b o n1 n2 e => by rw [zag n2]; exact sm1 b o n1 n2 e
      · cases ns with
        | nil => exact hD _ _ ⟨rfl, rfl, ha1, hg1, sm1⟩
        | cons d ns => exact absurd (by simp) c
  · intro D' _ _ _ hD
    refine zaK (fun σ H' => σ = [some (.ref a), some (Vn n), none, none, none, none, none] ∧ Pu H' a g ∧ yaq a g H H') (fun _ H' => ycq H' g) ⟨rfl, hP, yaq.refl⟩ ?_
    rintro σ H' ⟨rfl, ⟨ns, x, t, ha, hg⟩, sm⟩
    refine ⟨_, rfl, a, _, _, _, rfl, rfl, SqL.of ha, rfl, szl 0, fun l hl => ?_⟩
    have nla : a ≠ l := zaf ha hl
    have nlg : g ≠ l := zaf hg hl
    have hg1 : (upd H' l (.lst [])) g = some (.lst (ns.map Vn)) := by rw [zag nlg]; exact hg
    have ha1 : (upd H' l (.lst [])) a = some (.lst [.ref g, Vn x, Vn t]) := by rw [zag nla]; exact ha
    have sm1 : yaq a g H (upd H' l (.lst [])) := sm.trans (Same.x (yac hl _))
    refine ⟨g, l, _, rfl, rfl, SqL.of hg1, SqL.of zac, _, rfl, ?_⟩
    refine ite2 (fun c => ?_) (fun c => ?_)
    · cases ns with
      | nil => exact absurd c (by simp)
      | cons d ns =>
        refine ⟨_, rfl, a, _, _, _, rfl, rfl, SqL.of ha1, rfl, ?_⟩
        refine ⟨g, _, _, _, rfl, rfl, SqL.of hg1, ycO _ _, ?_⟩
        refine ⟨rfl, _, rfl, ?_⟩
        refine ite2 (fun c => ?_) (fun c => ?_)
        · refine ⟨fun σ' H'' => σ' = [some (.ref a), some (Vn n), none, none, none, none, none] ∧ H'' = upd (upd H' l (.lst [])) g (.lst (ns.map Vn)), ?_, ?_⟩
          · rintro σ' H'' ⟨rfl, rfl⟩
            refine ⟨_, ?_, rfl, rfl, ⟨ns, x, t, by rw [zag nag]; exact ha1, zac⟩, fun b o n1 n2 e => by rw [zag n2]; exact sm1 b o n1 n2 e⟩
            rw [ya0 hg, ya0 (xs := ns.map Vn) zac]; simp
          · refine ⟨_, rfl, a, _, _, _, rfl, rfl, SqL.of ha1, rfl, .inl ⟨rfl, _, SqL.of hg1⟩, ?_⟩
            exact ⟨g, _, 0, 0, Vn d, rfl, rfl, hg1, by decide, by decide, (ydn (ydB (by simp))).1, rfl, rfl, rfl⟩
        · exact hD _ _ ⟨rfl, ⟨d :: ns, x, t, ha1, hg1⟩, sm1⟩
    · refine ite2 (fun c2 => absurd c2 (by decide)) (fun _ => ?_)
      exact hD _ _ ⟨rfl, ⟨ns, x, t, ha1, hg1⟩, sm1⟩
end
end My
end
section
-- text: P3
set_option Elab.async false
set_option linter.all false
set_option maxRecDepth 100000
set_option maxHeartbeats 4000000
namespace My
open PySem L2 Dg
local macro_rules | `(tactic| walk_at "rd") => `(tactic| repeat (first | refine ⟨_, rfl, ?_⟩ | refine ⟨_, _, rfl, rfl, ?_⟩))
noncomputable def sumN : Nat → (Nat → Nat) → Nat
  | 0, _ => 0
  | n + 1, g => sumN n g + g n
theorem ycz : ∀ (n : Nat) (g : Nat → Nat), sumN (n + 1) g = g 0 + sumN n fun j => g (j + 1)
  | 0, g => by simp [sumN]
  | n + 1, g => by rw [sumN, ycz n g, sumN]; omega
theorem yd4 {n : Nat} {g h : Nat → Nat} (e : ∀ j, j < n → g j = h j) : sumN n g = sumN n h := by
  induction n with
  | zero => rfl
  | succ n ih => rw [sumN, sumN, ih fun j hj => e j (by omega), e n (by omega)]
noncomputable def shN (j : Nat) (y : Nat → Nat) (i : Nat) : Nat := if j ≤ i then y (i - j) else 0
theorem yde : ∀ (k : Nat) (f y : Nat → Nat) (i : Nat), zcD k f y i = sumN k fun j => f j * shN j y i
  | 0, _, _, _ => rfl
  | k + 1, f, y, i => by
    rw [ycz]
    show f 0 * y i + yaB (zcD k (fun j => f (j + 1)) y) i = f 0 * shN 0 y i + _
    congr 1
    unfold yaB
    by_cases h : i = 0
    · rw [if_pos h]
      subst h
      have : ∀ n, sumN n (fun j => f (j + 1) * shN (j + 1) y 0) = 0 := fun n => by
        induction n with
        | zero => rfl
        | succ n ih => rw [sumN, ih]; unfold shN; rw [if_neg (by omega)]; simp
      exact (this k).symm
    · rw [if_neg h, yde k]
      refine yd4 fun j _ => ?_
      congr 1
      unfold shN
      by_cases h2 : j + 1 ≤ i
      · rw [if_pos h2, if_pos (by omega)]; congr 1; omega
      · rw [if_neg h2, if_neg (by omega)]
noncomputable def rowL (p n : Nat) (c : Nat → Nat) : List V := (List.range n).map fun i => Vn (c i % p)
theorem ybD (p n : Nat) (c : Nat → Nat) : (rowL p n c).length = n := by simp [rowL]
theorem ycT {p n : Nat} (c : Nat → Nat) {i : Nat} (h : i < n) : (rowL p n c)[i]? = some (Vn (c i % p)) := by
  unfold rowL; rw [List.getElem?_map, List.getElem?_range h]; rfl
theorem ydz {p n : Nat} (c : Nat → Nat) {i : Nat} {j : Int} (h : i < n) (e : j = (i : Int)) : atI (rowL p n c) j = some (Vn (c i % p)) := by
  subst e; exact ybk (ycT c h)
theorem ybd {p n : Nat} {c c' : Nat → Nat} (h : ∀ i, i < n → c i % p = c' i % p) : rowL p n c = rowL p n c' := by
  unfold rowL
  refine List.map_congr_left fun i hi => ?_
  rw [h i (List.mem_range.mp hi)]
theorem ye1 {p n : Nat} (c : Nat → Nat) {s v : Nat} (h : s < n) : (rowL p n c).set s (Vn (v % p)) = rowL p n fun i => if i = s then v else c i := by
  refine List.ext_getElem? fun i => ?_
  by_cases hi : i < n
  · rw [ycT _ hi, List.getElem?_set]
    by_cases e : s = i
    · subst e; rw [if_pos rfl, if_pos (by rw [ybD]; exact hi), if_pos rfl]
    · rw [if_neg e, ycT _ hi, if_neg (Ne.symm e)]
  · rw [List.getElem?_eq_none (by rw [List.length_set, ybD]; omega), List.getElem?_eq_none (by rw [ybD]; omega)]
theorem yd7 {p n : Nat} {c : Nat → Nat} {s v : Nat} (h : s < n) {c' : Nat → Nat} (hc : ∀ i, i < n → c' i % p = (if i = s then c s % p + v else c i) % p) : (rowL p n c).set s (Vn ((c s % p + v) % p)) = rowL p n c' :=
  (ye1 c h).trans (ybd fun i hi => (hc i hi).symm)
theorem zet {n s : Nat} {j : Int} (h : s < n) (e : j = (s : Int)) : ixN n j = some s := by
  subst e
  unfold ixN
  rw [if_pos (by omega), if_pos (by omega)]; simp
theorem yfa (p k : Nat) (hp : 0 < p) : (List.replicate k [V.int 0]).flatten = rowL p k fun _ => 0 := by
  induction k with
  | zero => rfl
  | succ k ih =>
    rw [List.replicate_succ', List.flatten_append, ih]
    unfold rowL
    rw [List.range_succ, List.map_append]
    simp
section
variable {P : Program} {w : World} {K : PySem.W.Frag} {mg : Str → Option Value} {base : Heap} {f : Addr} {fd : FuncData}
noncomputable def ybU (K : PySem.W.Frag) : Sp := fun vs H Q _ => ∃ (a : Addr) (p m t x y : Nat), vs = [.ref a, .int x, .int y] ∧ Fld K H a p m t ∧ 2 ≤ p ∧ 1 ≤ m ∧ p ^ m ≤ 64 ∧ t < p ^ m ∧ x < p ^ m ∧ y < p ^ m ∧
  ∀ (r : Nat) H', Same H H' → r < p ^ m → (∀ i, i < m → dg p i r = tn m (fun i => dg p i t) m (fun i => dg p i x) (fun i => dg p i y) i % p) → Q (.int r) H'
theorem ycL {p m x i : Nat} (h : i < m) : (digL p m x)[i]? = some (Vn (dg p i x)) := by
  unfold digL; rw [List.getElem?_map, List.getElem?_range h]; rfl
theorem yeg {l : Addr} {H H' : Hp} {o : HO} (h : yaq l l H H') : yaq l l H (upd H' l o) := fun b u n1 n2 e => by rw [zag n1]; exact h b u n1 n2 e
theorem yeS {l p : Addr} {H H' : Hp} {o : HO} (h : yaq l l H H') (hp : H' p = none) : yaq l l H (upd H' p o) := h.trans (Same.x (yac hp o))
theorem ycC {l : Addr} {H H' : Hp} (h : yaq l l H H') (hl : H l = none) : Same H H' := fun b o e => h b o (zaf e hl) (zaf e hl) e
theorem yak : yaj ["_law_field_here", "_law_one", "_law_other", "_law_p", "_law_m", "_law_top", "_law_row", "_law_j", "_law_digit", "_law_k", "_law_by", "_law_place", "_law_at"] ["_law_field_here", "_law_one", "_law_other"] (zae za6) := ⟨rfl, rfl, rfl, by decide +kernel, rfl, by decide +kernel, by decide +kernel⟩
theorem ydS (B : Bl mg) (h__law_digits : Has P w K mg base 1 "_law_digits" ["_law_field_here", "_law_thing"] (ydd K)) (h__law_number : Has P w K mg base 1 "_law_number" ["_law_field_here", "_law_digits_here"] (zde K)) (F : Fun K "_law_product" "_law_product" za6 f fd) : FnOk P w K mg base CX0 2 f fd ["_law_field_here", "_law_one", "_law_other"] (ybU K) := by
  refine F.ok yak (fun vs H Q E h => ?_) (fun cdv A outer s H vs Q E hr h => ?_)
  · obtain ⟨a, p, m, t, x, y, rfl, _⟩ := h; rfl
  obtain ⟨a, p, m, t, x, y, rfl, hF, hp, hm, hpm, ht, hx, hy, q⟩ := h
  have hp2 := p_le hp hm hpm
  have hm6 := m_le hp hpm
  refine ⟨_, (@yaa _ _ _ _ _ (@yaS _ _ _ _ _ _ (pv 0) (@zaQ _ _ _ _ _ _ rfl (@yaf _ _ _ _ _ (@yae _ _ 3 _ yak.nd rfl (Or.inl rfl) (by first | exact .inl rfl | exact .inr rfl | assumption)) (@yaf _ _ _ _ _ (@yae _ _ 4 _ yak.nd rfl (Or.inl rfl) (by first | exact .inl rfl | exact .inr rfl | assumption)) (@yaf _ _ _ _ _ (@yae _ _ 5 _ yak.nd rfl (Or.inl rfl) (by first | exact .inl rfl | exact .inr rfl | assumption)) zax (by rfl)) (by rfl)) (by rfl)) (by rfl) (by rfl)) (by rfl) (by rfl) (by rfl)) (@yaa _ _ _ _ _ (@yag _ _ 6 _ _ _ _ yak.nd rfl (Or.inl rfl) (@zah _ _ _ _ _ _ _ _ yfT (@zaR _ _ _ _ (@zaa _ _ _ _ _ yab zab (by rfl))) (@zah _ _ _ _ _ _ _ _ zbX (@zah _ _ _ _ _ _ _ _ yaK yab (pv 4)) yab)) (by rfl) (by first | exact .inl rfl | exact .inr rfl | assumption)) (@yaa _ _ _ _ _ (@zaG _ _ _ _ _ _ _ _ PassesOwn.never rfl (@ycm _ _ _ _ _ _ _ _ rfl (B "enumerate" (by decide)) (@zaa _ _ _ _ _ (@yad _ _ _ _ _ _ _ _ _ _ _ h__law_digits hr (by decide) rfl (@zaa _ _ _ _ _ (pv 0) (@zaa _ _ _ _ _ (pv 1) zab (by rfl)) (by rfl)) (by decide) (by rfl) (by rfl)) zab (by rfl)) (by rfl)) (@zaQ _ _ _ _ _ _ rfl (@yaf _ _ _ _ _ (@yae _ _ 7 _ yak.nd rfl (Or.inl rfl) (by first | exact .inl rfl | exact .inr rfl | assumption)) (@yaf _ _ _ _ _ (@yae _ _ 8 _ yak.nd rfl (Or.inl rfl) (by first | exact .inl rfl | exact .inr rfl | assumption)) zax (by rfl)) (by rfl)) (by rfl) (by rfl)) (@zad _ _ _ (@zaG _ _ _ _ _ _ _ _ PassesOwn.never rfl (@ycm _ _ _ _ _ _ _ _ rfl (B "enumerate" (by decide)) (@zaa _ _ _ _ _ (@yad _ _ _ _ _ _ _ _ _ _ _ h__law_digits hr (by decide) rfl (@zaa _ _ _ _ _ (pv 0) (@zaa _ _ _ _ _ (pv 2) zab (by rfl)) (by rfl)) (by decide) (by rfl) (by rfl)) zab (by rfl)) (by rfl)) (@zaQ _ _ _ _ _ _ rfl (@yaf _ _ _ _ _ (@yae _ _ 9 _ yak.nd rfl (Or.inl rfl) (by first | exact .inl rfl | exact .inr rfl | assumption)) (@yaf _ _ _ _ _ (@yae _ _ 10 _ yak.nd rfl (Or.inl rfl) (by first | exact .inl rfl | exact .inr rfl | assumption)) zax (by rfl)) (by rfl)) (by rfl) (by rfl)) (@zad _ _ _ (@yaS _ _ _ _ _ _ (@zah _ _ _ _ _ _ _ _ zat (@zah _ _ _ _ _ _ _ _ yay (@zao _ _ _ _ _ _ _ zaq (pv 6) (@zah _ _ _ _ _ _ _ _ yay (pv 7) (pv 9)) (fun _ _ => rfl)) (@zah _ _ _ _ _ _ _ _ yaK (pv 8) (pv 10))) (pv 3)) (@ydO _ _ _ _ _ _ _ (pv 6) (@zah _ _ _ _ _ _ _ _ yay (pv 7) (pv 9)) zb3 (by intro _; rfl)) (by rfl) (by rfl) (by rfl))) (by intro _; rfl))) (by intro _; rfl)) (@yaa _ _ _ _ _ (@zaG _ _ _ _ _ _ _ _ PassesOwn.never rfl (@yfB _ _ _ _ _ _ _ _ rfl (B "range" (by decide)) (@zaa _ _ _ _ _ (@zah _ _ _ _ _ _ _ _ zbX (@zah _ _ _ _ _ _ _ _ yaK yab (pv 4)) yab) (@zaa _ _ _ _ _ (@zah _ _ _ _ _ _ _ _ zbX (pv 4) yab) (@zaa _ _ _ _ _ (@zed _ _ _ _ _ _ zdh yab) zab (by rfl)) (by rfl)) (by rfl)) (by rfl) (by rfl)) (@yae _ _ 11 _ yak.nd rfl (Or.inl rfl) (by first | exact .inl rfl | exact .inr rfl | assumption)) (@zad _ _ _ (@zaG _ _ _ _ _ _ _ _ PassesOwn.never rfl (@ycm _ _ _ _ _ _ _ _ rfl (B "enumerate" (by decide)) (@zaa _ _ _ _ _ (@yad _ _ _ _ _ _ _ _ _ _ _ h__law_digits hr (by decide) rfl (@zaa _ _ _ _ _ (pv 0) (@zaa _ _ _ _ _ (pv 5) zab (by rfl)) (by rfl)) (by decide) (by rfl) (by rfl)) zab (by rfl)) (by rfl)) (@zaQ _ _ _ _ _ _ rfl (@yaf _ _ _ _ _ (@yae _ _ 9 _ yak.nd rfl (Or.inl rfl) (by first | exact .inl rfl | exact .inr rfl | assumption)) (@yaf _ _ _ _ _ (@yae _ _ 8 _ yak.nd rfl (Or.inl rfl) (by first | exact .inl rfl | exact .inr rfl | assumption)) zax (by rfl)) (by rfl)) (by rfl) (by rfl)) (@yaa _ _ _ _ _ (@yag _ _ 12 _ _ _ _ yak.nd rfl (Or.inl rfl) (@zah _ _ _ _ _ _ _ _ yay (@zah _ _ _ _ _ _ _ _ zbX (pv 11) (pv 4)) (pv 9)) (by rfl) (by first | exact .inl rfl | exact .inr rfl | assumption)) (@zad _ _ _ (@yaS _ _ _ _ _ _ (@zah _ _ _ _ _ _ _ _ zat (@zah _ _ _ _ _ _ _ _ yay (@zao _ _ _ _ _ _ _ zaq (pv 6) (pv 12) (fun _ _ => rfl)) (@zah _ _ _ _ _ _ _ _ yaK (@zao _ _ _ _ _ _ _ zaq (pv 6) (pv 11) (fun _ _ => rfl)) (pv 8))) (pv 3)) (@ydO _ _ _ _ _ _ _ (pv 6) (pv 12) zb3 (by intro _; rfl)) (by rfl) (by rfl) (by rfl)))) (by intro _; rfl))) (by intro _; rfl)) (@zad _ _ _ (@zaj _ _ _ _ (@yad _ _ _ _ _ _ _ _ _ _ _ h__law_number hr (by decide) rfl (@zaa _ _ _ _ _ (pv 0) (@zaa _ _ _ _ _ (@yb5 _ _ _ _ _ _ _ _ _ _ yeL (pv 6) zcO (@zcJ _ _ _ (pv 4))) zab (by rfl)) (by rfl)) (by decide) (by rfl) (by rfl)))))))), ?_⟩
  refine ⟨_, rfl, a, _, rfl, hF, rfl, _, _, rfl, _, _, rfl, _, _, rfl, rfl, ?_⟩
  refine ⟨szl 1, fun l0 hl0 => ?_⟩
  refine ⟨_, rfl, _, _, rfl, rfl, .inl ⟨by decide, by decide⟩, ?_⟩
  refine ⟨_, _, rfl, rfl, ?_⟩
  have e21 : (2 * (m : Int) - 1).toNat = 2 * m - 1 := by omega
  refine ⟨l0, _, _, rfl, rfl, zac, by show -(2 ^ 63) ≤ 2 * (m : Int) - 1; omega, by show 2 * (m : Int) - 1 < 2 ^ 63; omega, ?_, fun l hl => ?_⟩
  · show 1 * (2 * (m : Int) - 1).toNat ≤ sizeLine
    rw [e21]; exact szl _
  dsimp only
  rw [e21, yfa p _ (by omega)]
  have hlH : H l = none := (yac hl0 (.lst [.int 0])).free hl
  refine ya9 (fun σ H' => ∃ s7 s8 s9 s10 s11 s12, σ = [some (.ref a), some (Vn x), some (Vn y), some (Vn p), some (Vn m), some (Vn t), some (.ref l), s7, s8, s9, s10, s11, s12] ∧ yaq l l H H' ∧ H' l = some (.lst (rowL p (2 * m - 1) (zcD m (fun i => dg p i x) fun i => dg p i y)))) ?_ ?_
  · rintro σ H' ⟨s7, s8, s9, s10, s11, s12, rfl, sx, hrow⟩
    refine ya9 (fun σ H' => ∃ s7 s8 s9 s10 s11 s12, σ = [some (.ref a), some (Vn x), some (Vn y), some (Vn p), some (Vn m), some (Vn t), some (.ref l), s7, s8, s9, s10, s11, s12] ∧ yaq l l H H' ∧ ∃ c : Nat → Nat, H' l = some (.lst (rowL p (2 * m - 1) c)) ∧ ∀ i, i < m → c i = tn m (fun i => dg p i t) m (fun i => dg p i x) (fun i => dg p i y) i) ?_ ?_
    · rintro σ H' ⟨s7, s8, s9, s10, s11, s12, rfl, sx, c, hrow, hc⟩
      refine ⟨_, rfl, _, rfl, _, rfl, _, rfl, l, _, rfl, SqL.of hrow, fun l2 hl2 => ?_⟩
      have sm2 : Same H (upd H' l2 (.lst (cutV (rowL p (2 * m - 1) c) none (some (m : Int))))) := (ycC sx hlH).trans (yac hl2 _)
      refine ⟨a, l2, p, m, t, (List.range m).map fun i => c i % p, rfl, Same.tup sm2 hF, hp, hp2, ?_, fun H3 s3 => ?_⟩
      · refine SqL.of ?_
        rw [zac]
        congr 2
        unfold cutV
        rw [HT.sIx_none, show HT.sIx (rowL p (2 * m - 1) c).length (rowL p (2 * m - 1) c).length (some (m : Int)) = min m (rowL p (2 * m - 1) c).length from HT.sIx_nat _ _ m, ybD, List.drop_zero, show min m (2 * m - 1) - 0 = m by omega]
        unfold rowL
        rw [← List.map_take, List.take_range, List.map_map, show min m (2 * m - 1) = m by omega]
        rfl
      · have hds : ∀ d ∈ (List.range m).map (fun i => c i % p), d < p := fun d hd => by
          obtain ⟨i, _, rfl⟩ := List.mem_map.mp hd
          exact Nat.mod_lt _ (by omega)
        have hg : ∀ i, ((List.range m).map fun i => c i % p).getD i 0 = if i < m then c i % p else 0 := fun i => by
          by_cases hi : i < m
          · rw [if_pos hi, List.getD, List.getElem?_map, List.getElem?_range hi]; rfl
          · rw [if_neg hi, List.getD, List.getElem?_eq_none (by simpa using hi)]; rfl
        refine q _ _ (sm2.trans s3) (zbU hp fun i hi => ?_) fun i hi => ?_
        · rw [zem hp _ hds, hg, if_neg (by omega)]
        · rw [zem hp _ hds, hg, if_pos hi, hc i hi]
    · intro D' _ _ _ hD
      refine ⟨_, rfl, _, _, rfl, rfl, .inl ⟨by decide, by decide⟩, ?_⟩
      refine ⟨_, _, rfl, rfl, ?_⟩
      refine ⟨_, rfl, _, _, rfl, rfl, ?_⟩
      refine ⟨_, rfl, ?_⟩
      refine ⟨2 * (m : Int) - 2, (m : Int) - 1, rfl, ⟨by omega, by omega, by omega, by omega⟩, ?_⟩
      refine zbV zd8 (fun i σ H' => ∃ s7 s8 s9 s10 s11 s12, σ = [some (.ref a), some (Vn x), some (Vn y), some (Vn p), some (Vn m), some (Vn t), some (.ref l), s7, s8, s9, s10, s11, s12] ∧ yaq l l H H' ∧ ∃ c : Nat → Nat, H' l = some (.lst (rowL p (2 * m - 1) c)) ∧
        redF m (fun i => dg p i t) (m - 1 - i) c = redF m (fun i => dg p i t) (m - 1) (zcD m (fun i => dg p i x) fun i => dg p i y)) ⟨s7, s8, s9, s10, s11, s12, rfl, sx, _, hrow, rfl⟩ (fun _ _ _ _ _ => trivial) ?_ ?_
      · rintro i v σ H' H'' hi ⟨s7, s8, s9, s10, s11, s12, rfl, sx, c, hrow, hred⟩ ⟨rfl, rfl⟩
        obtain ⟨j, hj⟩ : ∃ j, m - 1 - i = j + 1 := ⟨m - 1 - i - 1, by omega⟩
        have eq : V.int (2 * (m : Int) - 2 - (i : Int)) = Vn (m + j) := by show V.int _ = V.int _; congr 1; omega
        have hq : m + j < 2 * m - 1 := by omega
        dsimp only [yaC]
        rw [eq]
        refine ⟨_, rfl, _, rfl, a, p, m, t, t, rfl, Same.tup (ycC sx hlH) hF, hp, hp2, by omega, fun b2 H2 hb2' s2 e2 => ?_⟩
        have nb2 : b2 ≠ l := fun e => by rw [e, hrow] at hb2'; cases hb2'
        refine ⟨false, b2, rfl, ⟨_, SqL.of e2⟩, ?_⟩
        refine zbV (zbw (K := K) (b := false) (l := b2) (xs := digL p m t)) (fun k σ H' => ∃ s7 s8 s9 s10 s12, σ = [some (.ref a), some (Vn x), some (Vn y), some (Vn p), some (Vn m), some (Vn t), some (.ref l), s7, s8, s9, s10, some (Vn (m + j)), s12] ∧ yaq l l H H' ∧ H' b2 = some (.lst (digL p m t)) ∧
          H' l = some (.lst (rowL p (2 * m - 1) fun i => c i + if j ≤ i ∧ i < j + k then c (m + j) * dg p (i - j) t else 0))) ⟨s7, s8, s9, s10, s12, rfl, sx.trans (Same.x s2), e2, ?_⟩ ?_ ?_ ?_
        · rw [s2 _ _ hrow]
          congr 2
          refine ybd fun i _ => ?_
          rw [if_neg (by omega)]; rfl
        · rintro i σ H' _ ⟨s7, s8, s9, s10, s12, rfl, _, h, _⟩; exact SqL.of h
        · rintro k v σ H' H'' hk ⟨s7, s8, s9, s10, s12, rfl, sx, hc, hrow⟩ ⟨T, u, rfl, eu, hT, rfl⟩
          rw [zbk] at hk
          rw [ycL hk] at eu; cases eu
          refine ⟨T, _, rfl, SqT.of zac, rfl, _, _, rfl, _, _, rfl, rfl, ?_⟩
          have sx3 : yaq l l H (upd H' T (.tup [.int k, Vn (dg p k t)])) := yeS sx hT
          have hc3 : (upd H' T (.tup [.int k, Vn (dg p k t)])) b2 = some (.lst (digL p m t)) := by rw [zag (zaf hc hT)]; exact hc
          have hr3 := (zag (o := .tup [.int k, Vn (dg p k t)]) (zaf hrow hT)).trans hrow
          generalize upd H' T (.tup [.int k, Vn (dg p k t)]) = G at sx3 hc3 hr3 ⊢
          have hjk : j + k < 2 * m - 1 := by omega
          have hmp : ∀ z, z % p < p := fun z => Nat.mod_lt _ (by omega)
          refine ⟨_, rfl, _, rfl, _, _, rfl, rfl, ?_⟩
          refine ⟨_, rfl, _, _, rfl, rfl, ?_⟩
          have eat : V.int (((m + j : Nat) : Int) - (m : Int) + ((k : Nat) : Int)) = Vn (j + k) := by show V.int _ = V.int _; congr 1; omega
          dsimp only [yaC]
          rw [eat]
          refine ⟨_, rfl, _, rfl, l, _, _, _, rfl, rfl, SqL.of hr3, ydz _ hjk rfl, ?_⟩
          refine ⟨_, rfl, _, rfl, l, _, _, _, rfl, rfl, SqL.of hr3, ydz _ hq rfl, ?_⟩
          have hmq := hmp (c (m + j) + if j ≤ m + j ∧ m + j < j + k then c (m + j) * dg p (m + j - j) t else 0)
          refine ⟨_, rfl, _, _, rfl, rfl, .inl ⟨by omega, by omega⟩, ?_⟩
          refine ⟨_, _, rfl, rfl, ?_⟩
          refine ⟨_, rfl, _, _, rfl, rfl, by show (0 : Int) < (p : Int); omega, ?_⟩
          refine ⟨_, rfl, _, rfl, ?_⟩
          refine ⟨l, _, _, j + k, rfl, rfl, hr3, zet (by rw [ybD]; exact hjk) rfl, ?_⟩
          refine ⟨s7, _, _, s10, _, rfl, yeg sx3, by rw [zag nb2]; exact hc3, ?_⟩
          rw [zac]
          congr 2
          refine yd7 (v := (c (m + j) + if j ≤ m + j ∧ m + j < j + k then c (m + j) * dg p (m + j - j) t else 0) % p * dg p k t) hjk fun i hi => ?_
          by_cases e : i = j + k
          · subst e
            rw [if_pos rfl, if_pos (by omega), if_neg (by omega), if_neg (by omega), Nat.add_zero, Nat.add_zero, show j + k - j = k by omega, Nat.mod_add_mod]
            exact ybl rfl (ycG (Nat.mod_mod _ _).symm rfl)
          · rw [if_neg e]
            congr 2
            by_cases h2 : j ≤ i ∧ i < j + k
            · rw [if_pos h2, if_pos (by omega)]
            · rw [if_neg h2, if_neg (by omega)]
        · rintro σ H' ⟨s7, s8, s9, s10, s12, rfl, sx, hc, hrow⟩
          refine ⟨s7, s8, s9, s10, _, s12, rfl, sx, _, hrow, ?_⟩
          rw [← hred, hj, show m - 1 - (i + 1) = j by omega]
          show _ = redF m (fun i => dg p i t) j (zbl m (fun i => dg p i t) (m + j) c)
          congr 1
          funext z
          unfold zbl
          rw [zbk, show m + j - m = j by omega]
          congr 1
          by_cases h2 : j ≤ z ∧ z < j + m
          · rw [if_pos h2, if_pos (by omega)]
          · rw [if_neg h2, if_neg (by omega)]
      · rintro σ H' ⟨s7, s8, s9, s10, s11, s12, rfl, sx, c, hrow, hred⟩
        refine hD _ _ ⟨s7, s8, s9, s10, s11, s12, rfl, sx, c, hrow, fun i hi => ?_⟩
        rw [show m - 1 - (2 * (m : Int) - 2 - ((m : Int) - 1)).toNat = 0 by omega] at hred
        have e := congrFun hred i
        have e2 := zdQ (t := fun i => dg p i t) hm (m - 1) (fun i => dg p i x) (fun i => dg p i y) (fun z hz => zaB hp hy hz) i hi
        rw [show m - 1 + 1 = m by omega] at e2
        exact e.trans e2
  · intro D' _ _ _ hD
    refine ⟨_, rfl, _, rfl, a, p, m, t, x, rfl, Same.tup ((yac hl0 _).trans (yac hl _)) hF, hp, hp2, by omega, fun b1 H1 hb1 s1 e1 => ?_⟩
    have hl1 : H1 l = some (.lst (rowL p (2 * m - 1) fun _ => 0)) := s1 _ _ zac
    have nb1 : b1 ≠ l := fun e => by rw [e, zac] at hb1; cases hb1
    have sx1 : yaq l l H H1 := Same.x (((yac hl0 _).trans (yac hl _)).trans s1)
    refine ⟨false, b1, rfl, ⟨_, SqL.of e1⟩, ?_⟩
    refine zbV (zbw (K := K) (b := false) (l := b1) (xs := digL p m x)) (fun j σ H' => ∃ s7 s8 s9 s10 s11 s12, σ = [some (.ref a), some (Vn x), some (Vn y), some (Vn p), some (Vn m), some (Vn t), some (.ref l), s7, s8, s9, s10, s11, s12] ∧ yaq l l H H' ∧ H' b1 = some (.lst (digL p m x)) ∧
      H' l = some (.lst (rowL p (2 * m - 1) fun i => sumN j fun j' => dg p j' x * shN j' (fun i => dg p i y) i))) ⟨none, none, none, none, none, none, rfl, sx1, e1, hl1⟩ ?_ ?_ ?_
    · rintro i σ H' _ ⟨s7, s8, s9, s10, s11, s12, rfl, _, h, _⟩; exact SqL.of h
    · rintro j v σ H' H'' hj ⟨s7, s8, s9, s10, s11, s12, rfl, sx, hb, hrow⟩ ⟨T, u, rfl, eu, hT, rfl⟩
      rw [zbk] at hj
      rw [ycL hj] at eu; cases eu
      refine ⟨T, _, rfl, SqT.of zac, rfl, _, _, rfl, _, _, rfl, rfl, ?_⟩
      have sx2 : yaq l l H (upd H' T (.tup [.int j, Vn (dg p j x)])) := yeS sx hT
      have hb2 : (upd H' T (.tup [.int j, Vn (dg p j x)])) b1 = some (.lst (digL p m x)) := by rw [zag (zaf hb hT)]; exact hb
      have hr2 : (upd H' T (.tup [.int j, Vn (dg p j x)])) l = some (.lst (rowL p (2 * m - 1) fun i => sumN j fun j' => dg p j' x * shN j' (fun i => dg p i y) i)) := by rw [zag (zaf hrow hT)]; exact hrow
      generalize upd H' T (.tup [.int j, Vn (dg p j x)]) = G at sx2 hb2 hr2 ⊢
      refine ⟨_, rfl, _, rfl, a, p, m, t, y, rfl, Same.tup (ycC sx2 hlH) hF, hp, hp2, by omega, fun b2 H2 hb2' s2 e2 => ?_⟩
      have nb2 : b2 ≠ l := fun e => by rw [e, hr2] at hb2'; cases hb2'
      refine ⟨false, b2, rfl, ⟨_, SqL.of e2⟩, ?_⟩
      refine zbV (zbw (K := K) (b := false) (l := b2) (xs := digL p m y)) (fun k σ H' => ∃ s9 s10 s11 s12, σ = [some (.ref a), some (Vn x), some (Vn y), some (Vn p), some (Vn m), some (Vn t), some (.ref l), some (Vn j), some (Vn (dg p j x)), s9, s10, s11, s12] ∧ yaq l l H H' ∧ H' b1 = some (.lst (digL p m x)) ∧ H' b2 = some (.lst (digL p m y)) ∧
        H' l = some (.lst (rowL p (2 * m - 1) fun i => sumN j (fun j' => dg p j' x * shN j' (fun i => dg p i y) i) + if j ≤ i ∧ i < j + k then dg p j x * dg p (i - j) y else 0))) ⟨s9, s10, s11, s12, rfl, sx2.trans (Same.x s2), s2 _ _ hb2, e2, ?_⟩ ?_ ?_ ?_
      · rw [s2 _ _ hr2]
        congr 2
        refine ybd fun i _ => ?_
        rw [if_neg (by omega)]; rfl
      · rintro i σ H' _ ⟨s9, s10, s11, s12, rfl, _, _, h, _⟩; exact SqL.of h
      · rintro k v σ H' H'' hk ⟨s9, s10, s11, s12, rfl, sx, hb, hc, hrow⟩ ⟨T, u, rfl, eu, hT, rfl⟩
        rw [zbk] at hk
        rw [ycL hk] at eu; cases eu
        refine ⟨T, _, rfl, SqT.of zac, rfl, _, _, rfl, _, _, rfl, rfl, ?_⟩
        have sx3 : yaq l l H (upd H' T (.tup [.int k, Vn (dg p k y)])) := yeS sx hT
        have hb3 : (upd H' T (.tup [.int k, Vn (dg p k y)])) b1 = some (.lst (digL p m x)) := by rw [zag (zaf hb hT)]; exact hb
        have hc3 : (upd H' T (.tup [.int k, Vn (dg p k y)])) b2 = some (.lst (digL p m y)) := by rw [zag (zaf hc hT)]; exact hc
        have hr3 := (zag (o := .tup [.int k, Vn (dg p k y)]) (zaf hrow hT)).trans hrow
        generalize upd H' T (.tup [.int k, Vn (dg p k y)]) = G at sx3 hb3 hc3 hr3 ⊢
        have d1 := yfP hp j x
        have hjk : j + k < 2 * m - 1 := by omega
        refine ⟨_, rfl, _, rfl, _, rfl, _, _, rfl, rfl, ?_⟩
        refine ⟨l, _, _, _, rfl, rfl, SqL.of hr3, ydz _ hjk rfl, ?_⟩
        refine ⟨_, rfl, _, rfl, _, _, rfl, rfl, .inl ⟨by show -(2 ^ 64 : Int) < ((dg p j x : Nat) : Int); omega, by show ((dg p j x : Nat) : Int) < 2 ^ 64; omega⟩, ?_⟩
        refine ⟨_, _, rfl, rfl, ?_⟩
        refine ⟨_, rfl, _, _, rfl, rfl, by show (0 : Int) < (p : Int); omega, ?_⟩
        refine ⟨_, rfl, _, rfl, _, rfl, _, _, rfl, rfl, ?_⟩
        refine ⟨l, _, _, j + k, rfl, rfl, hr3, zet (by rw [ybD]; exact hjk) rfl, ?_⟩
        refine ⟨_, _, s11, s12, rfl, yeg sx3, by rw [zag nb1]; exact hb3, by rw [zag nb2]; exact hc3, ?_⟩
        rw [zac]
        congr 2
        refine yd7 (v := dg p j x * dg p k y) hjk fun i hi => ?_
        by_cases e : i = j + k
        · subst e
          rw [if_pos rfl, if_pos (by omega), if_neg (by omega), Nat.add_zero, show j + k - j = k by omega, Nat.mod_add_mod]
        · rw [if_neg e]
          congr 2
          by_cases h2 : j ≤ i ∧ i < j + k
          · rw [if_pos h2, if_pos (by omega)]
          · rw [if_neg h2, if_neg (by omega)]
      · rintro σ H' ⟨s9, s10, s11, s12, rfl, sx, hb, hc, hrow⟩
        refine ⟨_, _, s9, s10, s11, s12, rfl, sx, hb, ?_⟩
        rw [hrow, zbk]
        congr 2
        refine ybd fun i _ => ?_
        rw [sumN]
        congr 2
        unfold shN
        by_cases h1 : j ≤ i
        · rw [if_pos h1]
          by_cases h2 : i < j + m
          · rw [if_pos ⟨h1, h2⟩]
          · rw [if_neg (by omega)]; show 0 = dg p j x * dg p (i - j) y; rw [zaB hp hy (by omega), Nat.mul_zero]
        · rw [if_neg h1, if_neg (by omega), Nat.mul_zero]
    · rintro σ H' ⟨s7, s8, s9, s10, s11, s12, rfl, sx, hb, hrow⟩
      refine hD _ _ ⟨s7, s8, s9, s10, s11, s12, rfl, sx, ?_⟩
      rw [hrow, zbk]
      congr 2
      exact ybd fun i _ => by rw [yde]
end
end My
end
section
-- text: P4
set_option Elab.async false
set_option linter.all false
set_option maxRecDepth 100000
set_option maxHeartbeats 4000000
namespace My
open PySem L2 Dg
section
variable {P : Program} {w : World} {K : PySem.W.Frag} {mg : Str → Option Value} {base : Heap} {f : Addr} {fd : FuncData}
theorem zf6 {b : Bool} (h : ¬ (!b) = true) : b = true := by cases b <;> simp_all
noncomputable def zeK (K : PySem.W.Frag) : Sp := fun vs H Q _ => ∃ (a : Addr) (p m t : Nat), vs = [.ref a] ∧ Fld K H a p m t ∧ 2 ≤ p ∧ 1 ≤ m ∧ p ^ m ≤ 64 ∧ t < p ^ m ∧
  ∀ (b : Bool) H', Same H H' → (b = true → ∀ x y, 0 < x → x < p ^ m → x < p ^ (m / 2 + 1) → 0 < y → y < p ^ m → mul p m t x y ≠ 0) → Q (.bl b) H'
theorem yau : yaj ["_law_field_here", "_law_p", "_law_m", "_law_top", "_law_many", "_law_one"] ["_law_field_here"] (zae yaO) := ⟨rfl, rfl, rfl, by decide +kernel, rfl, by decide +kernel, by decide +kernel⟩
theorem zfH (B : Bl mg) (h__law_raised : Has P w K mg base 1 "_law_raised" ["_law_one", "_law_many"] yal) (h__law_product : Has P w K mg base 2 "_law_product" ["_law_field_here", "_law_one", "_law_other"] (ybU K)) (F : Fun K "_law_is_good" "_law_is_good" yaO f fd) : FnOk P w K mg base CX0 3 f fd ["_law_field_here"] (zeK K) := by
  refine F.ok yau (fun vs H Q E h => ?_) (fun cdv A outer s H vs Q E hr h => ?_)
  · obtain ⟨a, p, m, t, rfl, _⟩ := h; rfl
  obtain ⟨a, p, m, t, rfl, hF, hp, hm, hpm, ht, q⟩ := h
  have hp2 := p_le hp hm hpm
  have hm6 := m_le hp hpm
  have hpos : 0 < p ^ m := Nat.pow_pos (by omega)
  refine ⟨_, (@yaa _ _ _ _ _ (@yaS _ _ _ _ _ _ (pv 0) (@zaQ _ _ _ _ _ _ rfl (@yaf _ _ _ _ _ (@yae _ _ 1 _ yau.nd rfl (Or.inl rfl) (by first | exact .inl rfl | exact .inr rfl | assumption)) (@yaf _ _ _ _ _ (@yae _ _ 2 _ yau.nd rfl (Or.inl rfl) (by first | exact .inl rfl | exact .inr rfl | assumption)) (@yaf _ _ _ _ _ (@yae _ _ 3 _ yau.nd rfl (Or.inl rfl) (by first | exact .inl rfl | exact .inr rfl | assumption)) zax (by rfl)) (by rfl)) (by rfl)) (by rfl) (by rfl)) (by rfl) (by rfl) (by rfl)) (@yaa _ _ _ _ _ (@yag _ _ 4 _ _ _ _ yau.nd rfl (Or.inl rfl) (@yad _ _ _ _ _ _ _ _ _ _ _ h__law_raised hr (by decide) rfl (@zaa _ _ _ _ _ (pv 1) (@zaa _ _ _ _ _ (pv 2) zab (by rfl)) (by rfl)) (by decide) (by rfl) (by rfl)) (by rfl) (by first | exact .inl rfl | exact .inr rfl | assumption)) (@yaa _ _ _ _ _ (@zaG _ _ _ _ _ _ _ _ PassesOwn.never rfl (@yaW _ _ _ _ _ _ _ rfl (B "range" (by decide)) (@zaa _ _ _ _ _ yab (@zaa _ _ _ _ _ (@yai _ _ _ _ _ _ _ _ _ (yc4 rfl) rfl (B "min" (by decide)) ycd (@zaa _ _ _ _ _ (pv 4) (@zaa _ _ _ _ _ (@yad _ _ _ _ _ _ _ _ _ _ _ h__law_raised hr (by decide) rfl (@zaa _ _ _ _ _ (pv 1) (@zaa _ _ _ _ _ (@zah _ _ _ _ _ _ _ _ yay (@zah _ _ _ _ _ _ _ _ zc1 (pv 2) yab) yab) zab (by rfl)) (by rfl)) (by decide) (by rfl) (by rfl)) zab (by rfl)) (by rfl)) (by decide) (by decide) (by rfl) (by rfl)) zab (by rfl)) (by rfl)) (by rfl) (by rfl)) (@yae _ _ 5 _ yau.nd rfl (Or.inr rfl) (by first | exact .inl rfl | exact .inr rfl | assumption)) (@zad _ _ _ (@zaC _ _ _ _ _ _ _ _ (@zaP _ _ _ _ (@zaH _ _ _ (@yai _ _ _ _ _ _ _ _ _ (zbB rfl) rfl (B "all" (by decide)) PyProof.Rows.boot_all (@zaa _ _ _ _ _ (@zaV _ _ _ _ _ _ _ ["_law_other"] ["_law_field_here", "_law_one"] [0, 5] _ _ _ _ (id (α := CSc ["_law_field_here", "_law_p", "_law_m", "_law_top", "_law_many", "_law_one"] (zae yaO) ["_law_other"] ["_law_field_here", "_law_one"] [0, 5] _) ⟨by rfl, by decide +kernel, by decide +kernel, by decide +kernel, by decide +kernel, by rfl, by decide +kernel⟩) rfl (@yaW _ _ _ _ _ _ _ rfl (B "range" (by decide)) (@zaa _ _ _ _ _ yab (@zaa _ _ _ _ _ (pv 4) zab (by rfl)) (by rfl)) (by rfl) (by rfl)) (fun cl C fp s H => (@yae _ _ 0 _ (by show List.Nodup (["_law_other", "_law_field_here", "_law_one"] : List Str); decide +kernel) rfl (Or.inl rfl) (by first | exact .inl rfl | exact .inr rfl | assumption))) (fun _ _ _ _ _ => zaE) (fun _ _ _ _ _ => (@ybP _ _ _ _ _ _ _ _ zb1 (@yad _ _ _ _ _ _ _ _ _ _ _ h__law_product hr (by decide) rfl (@zaa _ _ _ _ _ (pv 1) (@zaa _ _ _ _ _ (pv 2) (@zaa _ _ _ _ _ (pv 0) zab (by rfl)) (by rfl)) (by rfl)) (by decide) (by rfl) (by rfl)) yab (zam _))) (by intro _; rfl)) zab (by rfl)) (by decide) (by decide) (by rfl) (by rfl)) (by intro _; rfl))) (@zad _ _ _ (@zaj _ _ _ _ yaT)) yam)) (by intro _; rfl)) (@zad _ _ _ (@zaj _ _ _ _ yaT))))), ?_⟩
  refine ⟨_, rfl, a, _, rfl, hF, rfl, _, _, rfl, _, _, rfl, _, _, rfl, rfl, ?_⟩
  refine ⟨_, rfl, _, rfl, p, m, rfl, hp2, by omega, ?_⟩
  refine ⟨_, rfl, _, rfl, _, rfl, _, _, rfl, rfl, ⟨by show (0 : Int) < 2; decide, by show (2 : Int) < 2 ^ 64; decide⟩, ?_⟩
  refine ⟨_, _, rfl, rfl, ?_⟩
  refine ⟨p, m / 2 + 1, rfl, hp2, by omega, ?_⟩
  refine ⟨_, _, rfl, ?_⟩
  generalize hj : (if (((p ^ (m / 2 + 1) : Nat) : Int) < ((p ^ m : Nat) : Int)) then ((p ^ (m / 2 + 1) : Nat) : Int) else ((p ^ m : Nat) : Int)) = j
  have hj2 : 0 ≤ j ∧ j ≤ ((p ^ m : Nat) : Int) ∧ ∀ x : Nat, x < p ^ m → x < p ^ (m / 2 + 1) → (x : Int) < j := by
    rw [← hj]; split
    · exact ⟨by omega, by omega, fun x h1 h2 => by omega⟩
    · exact ⟨by omega, by omega, fun x h1 h2 => by omega⟩
  refine ⟨1, j, rfl, ⟨by omega, by omega, by omega, by omega⟩, ?_⟩
  refine yaw (fun i σ H' => Same H H' ∧ (∀ x y, 0 < x → x < 1 + i → 0 < y → y < p ^ m → mul p m t x y ≠ 0) ∧ ∃ s, σ = [some (.ref a), some (Vn p), some (Vn m), some (Vn t), some (Vn (p ^ m)), s]) ⟨Same.refl _, fun x y h1 h2 => by omega, none, rfl⟩ ?_ ?_
  · rintro i σ H' hi ⟨sm, hno, s, rfl⟩
    refine ⟨_, rfl, 1, ((p ^ m : Nat) : Int), rfl, ⟨by omega, by omega, by omega, by omega⟩, ?_⟩
    refine yar zbe (fun k acc H1 => Same H H1 ∧ acc = ((List.range k).map fun j => decide (0 < mul p m t (1 + i) (1 + j))).map V.bl) ⟨sm, rfl⟩ (fun _ _ _ _ _ => trivial) ?_ ?_ ?_
    · rintro k acc H1 hk ⟨_, rfl⟩
      rw [List.length_map, List.length_map, List.length_range]; exact Nat.lt_of_le_of_lt (show k ≤ 1000 by omega) (zak (Nat.le_refl _))
    · rintro k acc x H1 H2 hk ⟨sm1, rfl⟩ ⟨rfl, rfl⟩
      refine ⟨_, rfl, _, rfl, _, rfl, a, p, m, t, 1 + i, 1 + k, rfl, Same.tup sm1 hF, hp, hm, hpm, ht, by omega, by omega, fun r H3 s3 br hr => ?_⟩
      have e := zdc hp hm br hr
      subst e
      refine ⟨_, _, rfl, rfl, sm1.trans s3, ?_⟩
      rw [List.range_succ, List.map_append, List.map_append]
      refine congrArg (_ ++ [V.bl ·]) ?_
      show decide ((0 : Int) < ((mul p m t (1 + i) (1 + k) : Nat) : Int)) = decide (0 < mul p m t (1 + i) (1 + k))
      exact decide_eq_decide.mpr (by omega)
    · rintro acc H1 ⟨sm1, rfl⟩ D hD
      refine ⟨D, _, rfl, SqL.of zac, _, rfl, ?_⟩
      refine ite2 (fun c => ?_) (fun c => ?_)
      · exact q _ _ (sm1.trans (yac hD _)) (fun h => by cases h)
      · refine ⟨sm1.trans (yac hD _), fun x y h1 h2 h3 h4 => ?_, _, rfl⟩
        by_cases hx : x < 1 + i
        · exact hno x y h1 hx h3 h4
        · have c2 : ((List.range (((p ^ m : Nat) : Int) - 1).toNat).map fun j => decide (0 < mul p m t (1 + i) (1 + j))).all id = true := zf6 c
          rw [List.all_eq_true] at c2
          have c3 := c2 (decide (0 < mul p m t (1 + i) (1 + (y - 1)))) (List.mem_map.mpr ⟨y - 1, List.mem_range.mpr (by omega), rfl⟩)
          have c4 : 0 < mul p m t (1 + i) (1 + (y - 1)) := of_decide_eq_true c3
          rw [show 1 + i = x by omega, show 1 + (y - 1) = y by omega] at c4
          omega
  · rintro σ H' ⟨sm, hno, s, rfl⟩
    refine q _ _ sm fun _ x y h1 h2 h3 h4 h5 => hno x y h1 ?_ h4 h5
    have := hj2.2.2 x h2 h3
    omega
end
end My
end
section
-- text: P5
set_option Elab.async false
set_option linter.all false
set_option maxRecDepth 100000
set_option maxHeartbeats 4000000
namespace My
open PySem L2 Dg
theorem ze0 {p m : Nat} (h : (p, m) ∈ Dg.menu) : (p, 1) ∈ Dg.menu := (by decide +kernel : ∀ c ∈ Dg.menu, (c.1, 1) ∈ Dg.menu) (p, m) h
noncomputable def yex : List (Int × Int) → TA
  | [] => tNil
  | (p, m) :: r => zcp (tTup (zcp (tC (.int p)) (zcp (tC (.int m)) tNil))) (yex r)
@[irreducible] noncomputable def ycM (ps : List (Int × Int)) : TA := yex ps
theorem zcT (ps : List (Int × Int)) : ycM ps = yex ps := by unfold ycM; rfl
theorem ycU : ycM [] = tNil := by rw [zcT]; rfl
theorem zcv {p m : Int} {r : List (Int × Int)} : ycM ((p, m) :: r) = zcp (tTup (zcp (tC (.int p)) (zcp (tC (.int m)) tNil))) (ycM r) := by rw [zcT, zcT]; rfl
section
variable {X : Cx}
theorem zb7 : PA X [] (ycM []) := by rw [ycU]; exact zab
theorem zal {p m : Int} {k1 k2 c : Nat} {p1 p2 p3 : Pos} {es : List Expr} {r : List (Int × Int)} (h : PA X es (ycM r)) : PA X (.Tuple [.Constant (.int p) k1 p1, .Constant (.int m) k2 p2] c p3 :: es) (ycM ((p, m) :: r)) := by
  rw [zcv]
  exact zaa (ybb (zaa yab (zaa yab zab))) h
end
noncomputable def zcA (H : Hp) (t : Addr) : Prop := ∃ p m : Nat, H t = some (.tup [Vn p, Vn m]) ∧ (p, m) ∈ Dg.menu
theorem zcA.same {H H' : Hp} {t : Addr} (h : zcA H t) (s : ∀ o, H t = some o → H' t = some o) : zcA H' t := by
  obtain ⟨p, m, e, q⟩ := h; exact ⟨p, m, s _ e, q⟩
theorem ycl : ∀ (ps : List (Int × Int)) (σ : St) (H : Hp) (Q : List V → Hp → Prop), (∀ x ∈ ps, ∃ p m : Nat, x = ((p : Int), (m : Int)) ∧ (p, m) ∈ Dg.menu) →
    (∀ (ts : List Addr) H', Same H H' → ts.length = ps.length → (∀ t ∈ ts, H t = none ∧ zcA H' t) → Q (ts.map V.ref) H') → ycM ps σ H Q
  | [], σ, H, Q, _, q => by rw [ycU]; exact q [] H (Same.refl _) rfl (fun t ht => nomatch ht)
  | (p, m) :: r, σ, H, Q, hp, q => by
    rw [zcv]
    refine ⟨szl 2, fun t ht => ?_⟩
    obtain ⟨p', m', e, b⟩ := hp (p, m) List.mem_cons_self
    cases e
    refine ycl r σ _ _ (fun x hx => hp x (List.mem_cons_of_mem _ hx)) fun ts H' s hl hts => ?_
    refine q (t :: ts) H' ((yac ht _).trans s) (by simp [hl]) fun t' ht' => ?_
    rcases List.mem_cons.mp ht' with e | e
    · subst e; exact ⟨ht, p', m', s _ _ zac, b⟩
    · exact ⟨(yac ht _).free (hts t' e).1, (hts t' e).2⟩
structure Menu (a g : Addr) (H : Hp) (l : Addr) (n : Nat) : Prop where
  ex : ∃ ts : List Addr, H l = some (.lst (ts.map V.ref)) ∧ ts.length = n ∧ ∀ t ∈ ts, t ≠ a ∧ t ≠ g ∧ zcA H t
  na : l ≠ a
  ng : l ≠ g
theorem Menu.x {a g l : Addr} {n : Nat} {H H' : Hp} (h : Menu a g H l n) (s : yaq a g H H') : Menu a g H' l n := by
  obtain ⟨⟨ts, h1, h2, h3⟩, na, ng⟩ := h
  exact ⟨⟨ts, s _ _ na ng h1, h2, fun t ht => ⟨(h3 t ht).1, (h3 t ht).2.1, (h3 t ht).2.2.same fun o e => s _ _ (h3 t ht).1 (h3 t ht).2.1 e⟩⟩, na, ng⟩
section
variable {P : Program} {w : World} {K : PySem.W.Frag} {mg : Str → Option Value} {base : Heap} {f : Addr} {fd : FuncData}
noncomputable def ybJ : List Nat := [17, 19, 23, 29, 31, 37, 41, 43, 47, 53, 59]
noncomputable def ydM : Sp := fun vs H Q _ => ∃ (a g : Addr), vs = [.ref a] ∧ Pu H a g ∧ ∀ (r : Addr) (p m t : Nat) H', r ≠ a → r ≠ g → H r = none → H' r = some (.tup [Vn p, Vn m, Vn t]) → Good p m t → Pu H' a g → yaq a g H H' → Q (.ref r) H'
theorem zan : yaj ["_law_purse_here", "_law_some", "_law_size", "_law_p", "_law_m", "_law_many", "_law_start", "_law_turn", "_law_field_here"] ["_law_purse_here"] (zae za4) := ⟨rfl, rfl, rfl, by decide +kernel, rfl, by decide +kernel, by decide +kernel⟩
theorem Pu.lt {H : Hp} {a g l : Addr} (h : Pu H a g) (hl : H l = none) : l ≠ a ∧ l ≠ g := by
  obtain ⟨ns, s, t, h1, h2⟩ := h
  exact ⟨Ne.symm (zaf h1 hl), Ne.symm (zaf h2 hl)⟩
theorem ze5 (B : Bl mg) (h__law_pick : Has P w K mg base 1 "_law_pick" ["_law_purse_here", "_law_many"] ycK) (h__law_raised : Has P w K mg base 1 "_law_raised" ["_law_one", "_law_many"] yal) (h__law_is_good : Has P w K mg base 3 "_law_is_good" ["_law_field_here"] (zeK K)) (F : Fun K "_law_field" "_law_field" za4 f fd) : FnOk P w K mg base CX0 4 f fd ["_law_purse_here"] ydM := by
  refine F.ok zan (fun vs H Q E h => ?_) (fun cdv A outer s H vs Q E hr h => ?_)
  · obtain ⟨a, g, rfl, _⟩ := h; rfl
  obtain ⟨a, g, rfl, hP, q⟩ := h
  refine ⟨_, (@yaa _ _ _ _ _ (@yag _ _ 1 _ _ _ _ zan.nd rfl (Or.inl rfl) (@zaR _ _ _ _ (@zal _ _ _ _ _ _ _ _ _ _ _ (@zal _ _ _ _ _ _ _ _ _ _ _ (@zal _ _ _ _ _ _ _ _ _ _ _ (@zal _ _ _ _ _ _ _ _ _ _ _ (@zal _ _ _ _ _ _ _ _ _ _ _ (@zal _ _ _ _ _ _ _ _ _ _ _ (@zal _ _ _ _ _ _ _ _ _ _ _ (@zal _ _ _ _ _ _ _ _ _ _ _ (@zal _ _ _ _ _ _ _ _ _ _ _ (@zal _ _ _ _ _ _ _ _ _ _ _ (@zal _ _ _ _ _ _ _ _ _ _ _ (@zal _ _ _ _ _ _ _ _ _ _ _ zb7))))))))))))) (by rfl) (by first | exact .inl rfl | exact .inr rfl | assumption)) (@yaa _ _ _ _ _ (@yag _ _ 2 _ _ _ _ zan.nd rfl (Or.inl rfl) (@yad _ _ _ _ _ _ _ _ _ _ _ h__law_pick hr (by decide) rfl (@zaa _ _ _ _ _ (pv 0) (@zaa _ _ _ _ _ yab zab (by rfl)) (by rfl)) (by decide) (by rfl) (by rfl)) (by rfl) (by first | exact .inl rfl | exact .inr rfl | assumption)) (@yaa _ _ _ _ _ (@zaC _ _ _ _ _ _ _ _ (@zai _ _ _ _ _ _ _ _ zbx (pv 2) yab (zam _)) (@zad _ _ _ (@yag _ _ 1 _ _ _ _ zan.nd rfl (Or.inl rfl) (@zaR _ _ _ _ (@zal _ _ _ _ _ _ _ _ _ _ _ (@zal _ _ _ _ _ _ _ _ _ _ _ (@zal _ _ _ _ _ _ _ _ _ _ _ (@zal _ _ _ _ _ _ _ _ _ _ _ zb7))))) (by rfl) (by first | exact .inl rfl | exact .inr rfl | assumption))) yam) (@yaa _ _ _ _ _ (@zaC _ _ _ _ _ _ _ _ (@zai _ _ _ _ _ _ _ _ zbx (pv 2) yab (zam _)) (@zad _ _ _ (@ybg _ 1 _ _ _ _ _ _ _ _ _ ["_law_p"] [] [] _ _ _ _ zan.nd rfl (Or.inl rfl) (id (α := CSc ["_law_purse_here", "_law_some", "_law_size", "_law_p", "_law_m", "_law_many", "_law_start", "_law_turn", "_law_field_here"] (zae za4) ["_law_p"] [] [] _) ⟨by rfl, by decide +kernel, by decide +kernel, by decide +kernel, by decide +kernel, by rfl, by decide +kernel⟩) rfl (@zbv _ _ _ _ (@zaR _ _ _ _ (@zaa _ _ _ _ _ yab (@zaa _ _ _ _ _ yab (@zaa _ _ _ _ _ yab (@zaa _ _ _ _ _ yab (@zaa _ _ _ _ _ yab (@zaa _ _ _ _ _ yab (@zaa _ _ _ _ _ yab (@zaa _ _ _ _ _ yab (@zaa _ _ _ _ _ yab (@zaa _ _ _ _ _ yab (@zaa _ _ _ _ _ yab zab (by rfl)) (by rfl)) (by rfl)) (by rfl)) (by rfl)) (by rfl)) (by rfl)) (by rfl)) (by rfl)) (by rfl)) (by rfl)))) (fun cl C fp s H => (@yae _ _ 0 _ (by show List.Nodup (["_law_p"] : List Str); decide +kernel) rfl (Or.inl rfl) (by first | exact .inl rfl | exact .inr rfl | assumption))) (fun _ _ _ _ _ => zaE) (fun _ _ _ _ _ => (@ybb _ _ _ _ _ (@zaa _ _ _ _ _ (pv 0) (@zaa _ _ _ _ _ yab zab (by rfl)) (by rfl)))) (by rfl) (by intro _; rfl) (by first | exact .inl rfl | exact .inr rfl | assumption))) yam) (@yaa _ _ _ _ _ (@yaS _ _ _ _ _ _ (@zao _ _ _ _ _ _ _ zaq (pv 1) (@yad _ _ _ _ _ _ _ _ _ _ _ h__law_pick hr (by decide) rfl (@zaa _ _ _ _ _ (pv 0) (@zaa _ _ _ _ _ (@yai _ _ _ _ _ _ _ _ _ zar rfl (B "len" (by decide)) PySem.boot_len (@zaa _ _ _ _ _ (pv 1) zab (by rfl)) (by decide) (by decide) (by rfl) (by rfl)) zab (by rfl)) (by rfl)) (by decide) (by rfl) (by rfl)) (fun _ _ => rfl)) (@zaQ _ _ _ _ _ _ rfl (@yaf _ _ _ _ _ (@yae _ _ 3 _ zan.nd rfl (Or.inl rfl) (by first | exact .inl rfl | exact .inr rfl | assumption)) (@yaf _ _ _ _ _ (@yae _ _ 4 _ zan.nd rfl (Or.inl rfl) (by first | exact .inl rfl | exact .inr rfl | assumption)) zax (by rfl)) (by rfl)) (by rfl) (by rfl)) (by rfl) (by rfl) (by rfl)) (@yaa _ _ _ _ _ (@yag _ _ 5 _ _ _ _ zan.nd rfl (Or.inl rfl) (@yad _ _ _ _ _ _ _ _ _ _ _ h__law_raised hr (by decide) rfl (@zaa _ _ _ _ _ (pv 3) (@zaa _ _ _ _ _ (pv 4) zab (by rfl)) (by rfl)) (by decide) (by rfl) (by rfl)) (by rfl) (by first | exact .inl rfl | exact .inr rfl | assumption)) (@yaa _ _ _ _ _ (@yag _ _ 6 _ _ _ _ zan.nd rfl (Or.inl rfl) (@yad _ _ _ _ _ _ _ _ _ _ _ h__law_pick hr (by decide) rfl (@zaa _ _ _ _ _ (pv 0) (@zaa _ _ _ _ _ (pv 5) zab (by rfl)) (by rfl)) (by decide) (by rfl) (by rfl)) (by rfl) (by first | exact .inl rfl | exact .inr rfl | assumption)) (@yaa _ _ _ _ _ (@zaG _ _ _ _ _ _ _ _ PassesOwn.never rfl (@zaD _ _ _ _ _ _ rfl (B "range" (by decide)) (@zaa _ _ _ _ _ (pv 5) zab (by rfl)) (by rfl)) (@yae _ _ 7 _ zan.nd rfl (Or.inl rfl) (by first | exact .inl rfl | exact .inr rfl | assumption)) (@yaa _ _ _ _ _ (@yag _ _ 8 _ _ _ _ zan.nd rfl (Or.inl rfl) (@ybb _ _ _ _ _ (@zaa _ _ _ _ _ (pv 3) (@zaa _ _ _ _ _ (pv 4) (@zaa _ _ _ _ _ (@zah _ _ _ _ _ _ _ _ zat (@zah _ _ _ _ _ _ _ _ yay (pv 6) (pv 7)) (pv 5)) zab (by rfl)) (by rfl)) (by rfl))) (by rfl) (by first | exact .inl rfl | exact .inr rfl | assumption)) (@zad _ _ _ (@zaC _ _ _ _ _ _ _ _ (@PW.pt _ _ _ (@zbE _ _ _ _ _ _ _ (@zai _ _ _ _ _ _ _ _ zbx (pv 4) yab (zam _)) (@za1 _ _ _ _ (@zaH _ _ _ (@yad _ _ _ _ _ _ _ _ _ _ _ h__law_is_good hr (by decide) rfl (@zaa _ _ _ _ _ (pv 8) zab (by rfl)) (by decide) (by rfl) (by rfl)) (by intro _; rfl))))) (@zad _ _ _ (@zaj _ _ _ _ (pv 8))) yam))) (by intro _; rfl)) (@zad _ _ _ (@zaj _ _ _ _ (@ybb _ _ _ _ _ (@zaa _ _ _ _ _ (pv 3) (@zaa _ _ _ _ _ yab (@zaa _ _ _ _ _ yab zab (by rfl)) (by rfl)) (by rfl))))))))))))), ?_⟩
  refine ycl [(2, 1), (2, 2), (2, 3), (2, 4), (3, 1), (3, 2), (3, 3), (5, 1), (5, 2), (7, 1), (11, 1), (13, 1)] _ H _ ?_ fun ts H0 s0 hts hpair => ?_
  · intro x hx
    simp only [List.mem_cons, List.not_mem_nil, or_false] at hx
    rcases hx with rfl | rfl | rfl | rfl | rfl | rfl | rfl | rfl | rfl | rfl | rfl | rfl
    · exact ⟨2, 1, rfl, by decide +kernel⟩
    · exact ⟨2, 2, rfl, by decide +kernel⟩
    · exact ⟨2, 3, rfl, by decide +kernel⟩
    · exact ⟨2, 4, rfl, by decide +kernel⟩
    · exact ⟨3, 1, rfl, by decide +kernel⟩
    · exact ⟨3, 2, rfl, by decide +kernel⟩
    · exact ⟨3, 3, rfl, by decide +kernel⟩
    · exact ⟨5, 1, rfl, by decide +kernel⟩
    · exact ⟨5, 2, rfl, by decide +kernel⟩
    · exact ⟨7, 1, rfl, by decide +kernel⟩
    · exact ⟨11, 1, rfl, by decide +kernel⟩
    · exact ⟨13, 1, rfl, by decide +kernel⟩
  refine ⟨by rw [List.length_map, hts]; exact szl 12, fun l hl => ?_⟩
  have hP0 : Pu (upd H0 l (.lst (ts.map V.ref))) a g := hP.same (s0.trans (yac hl _))
  have sx0 : yaq a g H (upd H0 l (.lst (ts.map V.ref))) := Same.x (s0.trans (yac hl _))
  have M0 : Menu a g (upd H0 l (.lst (ts.map V.ref))) l 12 := by
    have n1 := (hP.same s0).lt hl
    refine ⟨⟨ts, zac, hts, fun t ht => ?_⟩, n1.1, n1.2⟩
    have n2 := hP.lt (hpair t ht).1
    exact ⟨n2.1, n2.2, (hpair t ht).2.same fun o e => (yac hl _) _ _ e⟩
  generalize upd H0 l (.lst (ts.map V.ref)) = G at hP0 sx0 M0 ⊢
  refine ⟨_, rfl, a, g, 8, rfl, hP0, by omega, by omega, fun sz H1 hsz hP1 sx1 => ?_⟩
  have sxA := sx0.trans sx1
  have M1 := M0.x sx1
  dsimp only [yaC]
  refine ya9 (fun σ H' => ∃ l n, 0 < n ∧ n ≤ 12 ∧ Menu a g H' l n ∧ Pu H' a g ∧ yaq a g H H' ∧ σ = [some (.ref a), some (.ref l), some (Vn sz), none, none, none, none, none, none]) ?_ ?_
  · rintro σ H2 ⟨l, n, hn, hn2, M2, hP2, sx2, rfl⟩
    refine ya9 (fun σ H' => ∃ l n, 0 < n ∧ n ≤ 12 ∧ Menu a g H' l n ∧ Pu H' a g ∧ yaq a g H H' ∧ σ = [some (.ref a), some (.ref l), some (Vn sz), none, none, none, none, none, none]) ?_ ?_
    · rintro σ H3 ⟨l, n, hn, hn2, M3, hP3, sx3, rfl⟩
      obtain ⟨ts3, e3, l3, p3⟩ := M3.ex
      refine ⟨_, rfl, _, rfl, _, rfl, l, _, rfl, .inl (SqL.of e3), ?_⟩
      refine ⟨a, g, n, by rw [List.length_map, l3]; rfl, hP3, hn, by omega, fun i H4 hi hP4 sx4 => ?_⟩
      obtain ⟨ts4, e4, l4, p4⟩ := (M3.x sx4).ex
      have hi4 : i < ts4.length := by omega
      refine ⟨l, _, _, .ref (ts4[i]), rfl, rfl, SqL.of e4, ybk (by rw [List.getElem?_map, List.getElem?_eq_getElem hi4]; rfl), ?_⟩
      obtain ⟨_, _, p, m, ep, hmem⟩ := p4 ts4[i] (List.getElem_mem hi4)
      obtain ⟨hp, hm, hpm⟩ := ybc hmem
      have hp2 := p_le hp hm hpm
      have hm6 := m_le hp hpm
      have hpos : 0 < p ^ m := Nat.pow_pos (by omega)
      refine ⟨ts4[i], _, rfl, SqT.of ep, rfl, _, _, rfl, _, _, rfl, rfl, ?_⟩
      refine ⟨_, rfl, _, rfl, p, m, rfl, hp2, by omega, ?_⟩
      refine ⟨_, rfl, _, rfl, a, g, p ^ m, rfl, hP4, hpos, by omega, fun st H5 hst hP5 sx5 => ?_⟩
      have sxE := sx3.trans (sx4.trans sx5)
      refine ⟨_, rfl, ((p ^ m : Nat) : Int), rfl, by omega, by omega, ?_⟩
      refine yaw (n := p ^ m) (fun i σ H' => Pu H' a g ∧ yaq a g H H' ∧ ∃ s7 s8, σ = [some (.ref a), some (.ref l), some (Vn sz), some (Vn p), some (Vn m), some (Vn (p ^ m)), some (Vn st), s7, s8]) ⟨hP5, sxE, none, none, rfl⟩ ?_ ?_
      · rintro j σ H6 hj ⟨hP6, sx6, s7, s8, rfl⟩
        refine ⟨_, rfl, _, rfl, _, rfl, _, rfl, _, _, rfl, rfl, ?_⟩
        refine ⟨_, rfl, _, _, rfl, rfl, by show (0 : Int) < ((p ^ m : Nat) : Int); omega, ?_⟩
        refine ⟨szl 3, fun r hr => ?_⟩
        have nr := hP6.lt hr
        have hr0 : H r = none := by
          cases e : H r with
          | none => rfl
          | some o => rw [sx6 r o nr.1 nr.2 e] at hr; cases hr
        have et : V.int ((((st : Nat) : Int) + (0 + (j : Int))) % ((p ^ m : Nat) : Int)) = Vn ((st + j) % p ^ m) := by show V.int _ = V.int _; congr 1; rw [Int.zero_add]; rfl
        have hlt : (st + j) % p ^ m < p ^ m := Nat.mod_lt _ hpos
        have hP7 : Pu (upd H6 r (.tup [Vn p, Vn m, Vn ((st + j) % p ^ m)])) a g := hP6.same (yac hr _)
        have sx7 : yaq a g H (upd H6 r (.tup [Vn p, Vn m, Vn ((st + j) % p ^ m)])) := sx6.trans (Same.x (yac hr _))
        dsimp only [yaC]
        rw [et]
        refine ⟨_, rfl, rfl, _, rfl, ?_⟩
        refine ite2 (fun c => ?_) (fun c => ?_)
        · refine ite2 (fun _ => ?_) (fun c => absurd rfl c)
          have hm1 : m = 1 := by
            have := of_decide_eq_true c
            injection this with this
            omega
          exact ⟨_, rfl, q r p m _ _ nr.1 nr.2 hr0 zac ⟨hmem, hlt, .inl hm1⟩ hP7 sx7⟩
        · refine ⟨_, rfl, r, p, m, (st + j) % p ^ m, rfl, SqT.of zac, hp, hm, hpm, hlt, fun b H8 s8' hb => ?_⟩
          refine ⟨_, rfl, ?_⟩
          refine ite2 (fun c2 => ?_) (fun _ => ?_)
          · exact ⟨_, rfl, q r p m _ _ nr.1 nr.2 hr0 (s8' _ _ zac) ⟨hmem, hlt, .inr (hb c2)⟩ (hP7.same s8') (sx7.trans (Same.x s8'))⟩
          · exact ⟨hP7.same s8', sx7.trans (Same.x s8'), _, _, rfl⟩
      · rintro σ H6 ⟨hP6, sx6, s7, s8, rfl⟩
        refine ⟨_, rfl, szl 3, fun r hr => ?_⟩
        have nr := hP6.lt hr
        have hr0 : H r = none := by
          cases e : H r with
          | none => rfl
          | some o => rw [sx6 r o nr.1 nr.2 e] at hr; cases hr
        exact q r p 1 0 _ nr.1 nr.2 hr0 zac ⟨ze0 hmem, by simp; omega, .inl rfl⟩ (hP6.same (yac hr _)) (sx6.trans (Same.x (yac hr _)))
    · intro D' _ _ _ hD
      refine ⟨_, rfl, rfl, _, rfl, ?_⟩
      refine ite2 (fun c => ?_) (fun c => hD _ _ ⟨l, n, hn, hn2, M2, hP2, sx2, rfl⟩)
      refine ⟨szl 11, fun l2 hl2 => ?_⟩
      refine ⟨l2, rfl, ⟨_, SqL.of zac⟩, ?_⟩
      refine yar (zbd (xs := ybJ.map Vn)) (fun k acc H' => Same (upd H2 l2 (.lst (ybJ.map Vn))) H' ∧ ∃ ts : List Addr, ts.length = k ∧ acc = ts.map V.ref ∧ ∀ t ∈ ts, t ≠ a ∧ t ≠ g ∧ zcA H' t)
        ⟨Same.refl _, [], rfl, rfl, fun t ht => nomatch ht⟩ (fun i acc H' _ h => SqL.of (h.1 _ _ zac)) ?_ ?_ ?_
      · rintro k acc H' hk ⟨_, ts, e, rfl, _⟩
        have hk' : k < 11 := hk
        rw [List.length_map, e]; exact zak (by omega)
      · rintro k acc x H3 H4 hk ⟨s3, ts, e, rfl, hts⟩ ⟨rfl, hx⟩
        obtain ⟨pr, hpr, rfl⟩ : ∃ pr, pr ∈ ybJ ∧ x = Vn pr := by
          rw [List.getElem?_map] at hx
          cases e : ybJ[k]? with
          | none => rw [e] at hx; cases hx
          | some pr => rw [e] at hx; cases hx; exact ⟨pr, List.mem_of_getElem? e, rfl⟩
        have hb : (pr, 1) ∈ Dg.menu := (by decide +kernel : ∀ x ∈ ybJ, (x, 1) ∈ Dg.menu) pr hpr
        refine ⟨_, rfl, szl 2, fun t ht => ?_⟩
        have hP3 : Pu H4 a g := hP2.same ((yac hl2 _).trans s3)
        have nt := hP3.lt ht
        refine ⟨s3.trans (yac ht _), ts ++ [t], by simp [e], by simp, fun t' ht' => ?_⟩
        rcases List.mem_append.mp ht' with h | h
        · exact ⟨(hts t' h).1, (hts t' h).2.1, (hts t' h).2.2.same fun o e => (yac ht _) _ _ e⟩
        · cases List.mem_singleton.mp h
          exact ⟨nt.1, nt.2, pr, 1, zac, hb⟩
      · rintro acc H3 ⟨s3, ts, e, rfl, hts⟩ D hD3
        have sA : Same H2 H3 := (yac hl2 _).trans s3
        have hP3 : Pu H3 a g := hP2.same sA
        have nD := hP3.lt hD3
        refine hD _ _ ⟨D, 11, by omega, by omega, ⟨⟨ts, zac, e, fun t ht => ?_⟩, nD.1, nD.2⟩, hP3.same (yac hD3 _), sx2.trans (Same.x (sA.trans (yac hD3 _))), rfl⟩
        exact ⟨(hts t ht).1, (hts t ht).2.1, (hts t ht).2.2.same fun o e => (yac hD3 _) _ _ e⟩
  · intro D' _ _ _ hD
    refine ⟨_, rfl, rfl, _, rfl, ?_⟩
    refine ite2 (fun c => ?_) (fun c => hD _ _ ⟨l, 12, by omega, by omega, M1, hP1, sxA, rfl⟩)
    refine ycl [(2, 5), (2, 6), (7, 2), (61, 1)] _ H1 _ ?_ fun ts2 H2 s2 hts2 hpair2 => ?_
    · intro x hx
      simp only [List.mem_cons, List.not_mem_nil, or_false] at hx
      rcases hx with rfl | rfl | rfl | rfl
      · exact ⟨2, 5, rfl, by decide +kernel⟩
      · exact ⟨2, 6, rfl, by decide +kernel⟩
      · exact ⟨7, 2, rfl, by decide +kernel⟩
      · exact ⟨61, 1, rfl, by decide +kernel⟩
    refine ⟨by rw [List.length_map, hts2]; exact szl 4, fun l2 hl2 => ?_⟩
    refine hD _ _ ⟨l2, 4, by omega, by omega, ?_, hP1.same (s2.trans (yac hl2 _)), sxA.trans (Same.x (s2.trans (yac hl2 _))), rfl⟩
    have n1 := (hP1.same s2).lt hl2
    refine ⟨⟨ts2, zac, hts2, fun t ht => ?_⟩, n1.1, n1.2⟩
    have n2 := hP1.lt (hpair2 t ht).1
    exact ⟨n2.1, n2.2, (hpair2 t ht).2.same fun o e => (yac hl2 _) _ _ e⟩
end
end My
end
section
-- text: P8
set_option Elab.async false
set_option linter.all false
set_option maxRecDepth 100000
set_option maxHeartbeats 4000000
namespace My
open PySem L2 Dg
theorem zc6 : bootBuiltins "dict" = some (.type "dict") := by decide +kernel
noncomputable def Pws (p m t b : Nat) : List Nat := (List.range (p ^ m - 1)).map (pw p m t b)
noncomputable def Logs (p m t b : Nat) : List (Key × V) := (List.range (p ^ m - 1)).map fun i => (Sum.inl ((pw p m t b i : Nat) : Int), Vn i)
noncomputable def tabD (fa pa la : Addr) (p m : Nat) : List (Key × V) := [(.inr "field", .ref fa), (.inr "p", Vn p), (.inr "m", Vn m), (.inr "many", Vn (p ^ m)), (.inr "powers", .ref pa), (.inr "logs", .ref la)]
structure Tab (H : Hp) (tb fa pa la : Addr) (p m t b : Nat) : Prop where
  d : H tb = some (.dK (tabD fa pa la p m))
  f : H fa = some (.tup [Vn p, Vn m, Vn t])
  w : H pa = some (.lst ((Pws p m t b).map Vn))
  l : H la = some (.dK (Logs p m t b))
  good : Good p m t
  prim : Prim p m t b
theorem Tab.same {H H' : Hp} {tb fa pa la : Addr} {p m t b : Nat} (T : Tab H tb fa pa la p m t b) (s : Same H H') : Tab H' tb fa pa la p m t b :=
  ⟨s _ _ T.d, s _ _ T.f, s _ _ T.w, s _ _ T.l, T.good, T.prim⟩
theorem zbz {α : Type} {f : Nat → α} (n : Nat) (h : ∀ i j, i < n → j < n → f i = f j → i = j) : ((List.range n).map f).Nodup := by
  rw [List.Nodup, List.pairwise_iff_getElem]
  intro i j hi hj hij
  simp only [List.length_map, List.length_range] at hi hj
  simp only [List.getElem_map, List.getElem_range]
  intro e
  have := h i j hi hj e
  omega
theorem zdU {f : Nat → Key} {g : Nat → V} : ∀ (l : List Nat) (n : Nat), l = List.range n → (∀ i j, i < n → j < n → f i = f j → i = j) → ∀ i, i < n → valV (l.map fun i => (f i, g i)) (f i) = some (g i) := by
  intro l n hl h i hi
  subst hl
  unfold valV
  rw [List.find?_map]
  have e : (List.range n).find? ((fun kv : Key × V => decide (kv.1 = f i)) ∘ fun i => (f i, g i)) = some i := by
    rw [List.find?_range_eq_some]
    refine ⟨by simp, by simpa using hi, fun j hj => ?_⟩
    simp only [Function.comp, Bool.not_eq_true', decide_eq_false_iff_not]
    intro e
    have := h j i (by omega) hi e
    omega
  rw [e]; rfl
theorem ydU (fa pa la : Addr) (p m : Nat) : ycx [] (tabD fa pa la p m) = tabD fa pa la p m := rfl
theorem zcE (p m t b : Nat) : (Pws p m t b).length = p ^ m - 1 := by simp [Pws]
section
variable {P : Program} {w : World} {K : PySem.W.Frag} {mg : Str → Option Value} {base : Heap} {f : Addr} {fd : FuncData}
noncomputable def ydG : Sp := fun vs H Q _ => ∃ (fa : Addr) (p m t : Nat), vs = [.ref fa] ∧ H fa = some (.tup [Vn p, Vn m, Vn t]) ∧ Good p m t ∧ ∀ tb pa la b H', H tb = none → H pa = none → H la = none → Tab H' tb fa pa la p m t b → Same H H' → Q (.ref tb) H'
theorem yaA : yaj ["_law_field_here", "_law_many", "_law_powers", "_law_base", "_law_thing", "_law_logs"] ["_law_field_here"] (zae ya3) := ⟨rfl, rfl, rfl, by decide +kernel, rfl, by decide +kernel, by decide +kernel⟩
theorem ze2 (B : Bl mg) (h__law_raised : Has P w K mg base 1 "_law_raised" ["_law_one", "_law_many"] yal) (h__law_product : Has P w K mg base 2 "_law_product" ["_law_field_here", "_law_one", "_law_other"] (ybU K)) (F : Fun K "_law_table" "_law_table" ya3 f fd) : FnOk P w K mg base CX0 3 f fd ["_law_field_here"] ydG := by
  refine F.ok yaA (fun vs H Q E h => ?_) (fun cdv A outer s H vs Q E hr h => ?_)
  · obtain ⟨fa, p, m, t, rfl, _⟩ := h; rfl
  obtain ⟨fa, p, m, t, rfl, hf, G, q⟩ := h
  obtain ⟨b, Pb⟩ := G.prim
  have hp := G.hp
  have hm := G.hm
  have hpm := G.hq
  have ht := G.top
  have hp2 := p_le hp hm hpm
  have hm6 := m_le hp hpm
  have hQ2 := ybE hp hm
  have hbp := Pb.pos
  have hbl := Pb.lt
  refine ⟨_, (@yaa _ _ _ _ _ (@yag _ _ 1 _ _ _ _ yaA.nd rfl (Or.inl rfl) (@yad _ _ _ _ _ _ _ _ _ _ _ h__law_raised hr (by decide) rfl (@zaa _ _ _ _ _ (@zao _ _ _ _ _ _ _ zav (pv 0) yab (fun _ _ => rfl)) (@zaa _ _ _ _ _ (@zao _ _ _ _ _ _ _ zav (pv 0) yab (fun _ _ => rfl)) zab (by rfl)) (by rfl)) (by decide) (by rfl) (by rfl)) (by rfl) (by first | exact .inl rfl | exact .inr rfl | assumption)) (@yaa _ _ _ _ _ (@zct _ _ 2 3 _ _ _ _ _ _ _ _ _ _ _ rfl yaA.nd rfl rfl (by decide) rfl rfl (@zaa _ _ _ _ _ (@zaR _ _ _ _ zab) (@zaa _ _ _ _ _ yab zab (by rfl)) (by rfl)) rfl (by rfl)) (@yaa _ _ _ _ _ (@zaJ _ _ _ _ _ _ PassesOwn.never (@zai _ _ _ _ _ _ _ _ zdz (@yai _ _ _ _ _ _ _ _ _ zar rfl (B "len" (by decide)) PySem.boot_len (@zaa _ _ _ _ _ (pv 2) zab (by rfl)) (by decide) (by decide) (by rfl) (by rfl)) (@zah _ _ _ _ _ _ _ _ zbX (pv 1) yab) (zam _)) (@yaa _ _ _ _ _ (@yfH _ _ 3 2 4 _ _ _ _ _ _ _ _ _ _ _ _ _ _ rfl yaA.nd rfl rfl rfl (by decide) rfl rfl rfl (@zaa _ _ _ _ _ (@zah _ _ _ _ _ _ _ _ yay (pv 3) yab) (@zaa _ _ _ _ _ (@zaR _ _ _ _ (@zaa _ _ _ _ _ yab zab (by rfl))) (@zaa _ _ _ _ _ (@zah _ _ _ _ _ _ _ _ yay (pv 3) yab) zab (by rfl)) (by rfl)) (by rfl)) rfl (by rfl)) (@zad _ _ _ (@zaJ _ _ _ _ _ _ PassesOwn.never (@zai _ _ _ _ _ _ _ _ zcN (pv 4) yab (zam _)) (@yaa _ _ _ _ _ (@yby _ _ _ _ (@zc8 _ _ _ _ _ _ _ _ _ _ _ _ PySem.F.plainAttrs_list PySem.F.slot_list_append PySem.F.type_list_append yaY (pv 2) (@zaa _ _ _ _ _ (pv 4) zab (by rfl)) (by rfl) (by rfl) (by rfl) (by rfl) (by rfl)) (by rfl)) (@zad _ _ _ (@yag _ _ 4 _ _ _ _ yaA.nd rfl (Or.inl rfl) (@yad _ _ _ _ _ _ _ _ _ _ _ h__law_product hr (by decide) rfl (@zaa _ _ _ _ _ (pv 0) (@zaa _ _ _ _ _ (pv 4) (@zaa _ _ _ _ _ (pv 3) zab (by rfl)) (by rfl)) (by rfl)) (by decide) (by rfl) (by rfl)) (by rfl) (by first | exact .inl rfl | exact .inr rfl | assumption)))))))) (@yaa _ _ _ _ _ (@yag _ _ 5 _ _ _ _ yaA.nd rfl (Or.inl rfl) (@zaY _ _ _ _ _ _ _ _ _ (zcg rfl) rfl (B "dict" (by decide)) zc6 (@zaa _ _ _ _ _ (@zaV _ _ _ _ _ _ _ ["_law_at", "_law_thing"] [] [] _ _ _ _ (id (α := CSc ["_law_field_here", "_law_many", "_law_powers", "_law_base", "_law_thing", "_law_logs"] (zae ya3) ["_law_at", "_law_thing"] [] [] _) ⟨by rfl, by decide +kernel, by decide +kernel, by decide +kernel, by decide +kernel, by rfl, by decide +kernel⟩) rfl (@ycm _ _ _ _ _ _ _ _ rfl (B "enumerate" (by decide)) (@zaa _ _ _ _ _ (pv 2) zab (by rfl)) (by rfl)) (fun cl C fp s H => (@zeD _ _ _ _ 2 _ K rfl rfl (@yaf _ _ _ _ _ (@yae _ _ 0 _ (by show List.Nodup (["_law_at", "_law_thing"] : List Str); decide +kernel) rfl (Or.inl rfl) (by first | exact .inl rfl | exact .inr rfl | assumption)) (@yaf _ _ _ _ _ (@yae _ _ 1 _ (by show List.Nodup (["_law_at", "_law_thing"] : List Str); decide +kernel) rfl (Or.inl rfl) (by first | exact .inl rfl | exact .inr rfl | assumption)) zax (by rfl)) (by rfl)) (by rfl) (by rfl))) (fun _ _ _ _ _ => zaE) (fun _ _ _ _ _ => (@ybb _ _ _ _ _ (@zaa _ _ _ _ _ (pv 1) (@zaa _ _ _ _ _ (pv 0) zab (by rfl)) (by rfl)))) (by intro _; rfl)) zab (by rfl)) (by decide) (by decide) (by rfl) (by rfl)) (by rfl) (by first | exact .inl rfl | exact .inr rfl | assumption)) (@zad _ _ _ (@zaj _ _ _ _ (@zfs _ _ _ _ _ (@zbC _ _ _ _ _ _ _ _ _ zaT (pv 0) (@zbC _ _ _ _ _ _ _ _ _ zaT (@zao _ _ _ _ _ _ _ zav (pv 0) yab (fun _ _ => rfl)) (@zbC _ _ _ _ _ _ _ _ _ zaT (@zao _ _ _ _ _ _ _ zav (pv 0) yab (fun _ _ => rfl)) (@zbC _ _ _ _ _ _ _ _ _ zaT (pv 1) (@zbC _ _ _ _ _ _ _ _ _ zaT (pv 2) (@zbC _ _ _ _ _ _ _ _ _ zaT (pv 5) zfJ)))))) rfl rfl (fun h => nomatch h) (by decide)))))))), ?_⟩
  refine ⟨_, rfl, fa, _, _, _, rfl, rfl, SqT.of hf, rfl, ?_⟩
  refine ⟨_, rfl, fa, _, _, _, rfl, rfl, SqT.of hf, rfl, ?_⟩
  refine ⟨p, m, rfl, hp2, by omega, ?_⟩
  refine ⟨szl 0, fun l0 hl0 => ⟨_, _, rfl, ?_⟩⟩
  dsimp only []
  refine ya9 (fun σ H' => Same H H' ∧ ∃ pa s4, H pa = none ∧ H' pa = some (.lst ((Pws p m t b).map Vn)) ∧ σ = [some (.ref fa), some (Vn (p ^ m)), some (.ref pa), some (Vn b), s4, none]) ?_ ?_
  · rintro σ H1 ⟨s1, pa, s4, npa, epa, rfl⟩
    refine ⟨_, rfl, false, pa, rfl, ⟨_, SqL.of epa⟩, ?_⟩
    refine yar (zbw (b := false) (xs := (Pws p m t b).map Vn)) (fun k acc H' => Same H1 H' ∧ ∃ ts : List Addr, ts.length = k ∧ acc = ts.map V.ref ∧ ∀ j a, ts[j]? = some a → H' a = some (.tup [Vn (pw p m t b j), Vn j])) ⟨Same.refl _, [], rfl, rfl, fun j a e => by simp at e⟩ (fun i acc H' _ h => SqL.of (h.1 _ _ epa)) ?_ ?_ ?_
    · rintro k acc H' hk ⟨_, ts, e, rfl, _⟩
      rw [List.length_map, zcE] at hk
      rw [List.length_map, e]; exact zak (by omega)
    · rintro k acc x H2 H3 hk ⟨s2, ts, e, rfl, hts⟩ ⟨T, u, rfl, eu, hT, rfl⟩
      rw [List.length_map, zcE] at hk
      have eu2 : u = Vn (pw p m t b k) := by
        unfold Pws at eu
        rw [List.getElem?_map, List.getElem?_map, List.getElem?_range hk] at eu
        exact (Option.some.inj eu).symm
      subst eu2
      refine ⟨T, _, rfl, SqT.of zac, rfl, _, _, rfl, _, _, rfl, rfl, ?_⟩
      refine ⟨_, rfl, _, rfl, szl 2, fun a ha => ?_⟩
      have sA := (yac hT (.tup [.int (k : Int), Vn (pw p m t b k)])).trans (yac ha (.tup [Vn (pw p m t b k), Vn k]))
      refine ⟨s2.trans sA, ts ++ [a], by simp [e], by simp, fun j a' ej => ?_⟩
      rw [List.getElem?_append] at ej
      split at ej
      · exact sA _ _ (hts j a' ej)
      · rename_i h
        have hj : j = k := by
          have := (List.getElem?_eq_some_iff.mp ej).1
          simp at this; omega
        subst hj
        simp [e] at ej
        subst ej
        exact zac
    · rintro acc H2 ⟨s2, ts, e, rfl, hts⟩ D hD
      rw [List.length_map, zcE] at e
      have sB := yac hD (.lst (ts.map V.ref))
      refine ⟨D, ts, Logs p m t b, rfl, zac, by rw [e]; simp [Logs], by simp only [Logs, List.length_map, List.length_range]; exact szl _ (by omega), fun j a kv ej ek => ?_, ?_, fun la hla => ?_⟩
      · have hj : j < p ^ m - 1 := by have := (List.getElem?_eq_some_iff.mp ej).1; omega
        unfold Logs at ek
        rw [List.getElem?_map, List.getElem?_range hj] at ek
        cases ek
        exact sB _ _ (hts j a ej)
      · unfold Logs
        rw [List.map_map]
        refine zbz _ fun i j hi hj e => G.inj Pb i j hi hj ?_
        have e : Sum.inl ((pw p m t b i : Nat) : Int) = (Sum.inl ((pw p m t b j : Nat) : Int) : Key) := e
        injection e with e
        omega
      · intro tb htb
        have s3 : Same H1 (upd (upd H2 D (.lst (ts.map V.ref))) la (.dK (Logs p m t b))) := (s2.trans sB).trans (yac hla _)
        have s4 := s3.trans (yac htb (.dK []))
        have s5 := s1.trans s4
        refine ⟨_, rfl, _, rfl, fa, _, _, _, rfl, rfl, SqT.of (s5 _ _ hf), rfl, ?_⟩
        refine ⟨_, rfl, fa, _, _, _, rfl, rfl, SqT.of (s5 _ _ hf), rfl, ?_⟩
        refine ⟨_, rfl, _, rfl, _, rfl, zac, tabD fa pa la p m, rfl, by show 6 ≤ 15; decide, ?_⟩
        rw [zcH, ydU]
        have s6 := s3.trans (yac htb (.dK (tabD fa pa la p m)))
        have s7 := s1.trans s6
        have old : ∀ a, H1 a = none → H a = none := fun a ha => by
          cases e : H a with
          | none => rfl
          | some o => rw [s1 _ _ e] at ha; cases ha
        have old2 : ∀ a, upd H2 D (.lst (ts.map V.ref)) a = none → H a = none := fun a ha => by
          cases e : H a with
          | none => rfl
          | some o => rw [(s2.trans sB) _ _ (s1 _ _ e)] at ha; cases ha
        refine q tb pa la b _ ?_ npa (old2 la hla) ⟨zac, s7 _ _ hf, s6 _ _ epa, (yac htb _) _ _ zac, G, Pb⟩ s7
        cases e : H tb with
        | none => rfl
        | some o => rw [s3 _ _ (s1 _ _ e)] at htb; cases htb
  · intro D' _ _ _ hD
    refine zaK (fun σ H' => Same H H' ∧ ∃ base pa s4, H pa = none ∧ σ = [some (.ref fa), some (Vn (p ^ m)), some (.ref pa), some (Vn base), s4, none] ∧ ∃ L : List Nat, H' pa = some (.lst (L.map Vn)) ∧ ((base = b ∧ L = Pws p m t b) ∨ (base < b ∧ L.length < p ^ m - 1)))
      (fun σ _ => b - mI σ 3) ⟨yac hl0 _, 0, l0, none, hl0, rfl, [], zac, .inr ⟨hbp, by show 0 < p ^ m - 1; omega⟩⟩ ?_
    rintro σ H1 ⟨s1, bs, pa, s4, npa, rfl, L, ePa, hL⟩
    refine ⟨_, rfl, pa, _, rfl, .inl (SqL.of ePa), ?_⟩
    refine ⟨_, rfl, _, _, rfl, rfl, _, _, rfl, rfl, _, rfl, ?_⟩
    rw [List.length_map]
    refine ite2 (fun c => ?_) (fun c => ?_)
    · have c' : L.length < p ^ m - 1 := by have := of_decide_eq_true c; omega
      have hlt : bs < b := by
        rcases hL with ⟨rfl, rfl⟩ | h
        · rw [zcE] at c'; omega
        · exact h.1
      refine ⟨fun σ' H' => Same H H' ∧ ∃ pa s4, H pa = none ∧ σ' = [some (.ref fa), some (Vn (p ^ m)), some (.ref pa), some (Vn (bs + 1)), s4, none] ∧ ∃ L : List Nat, H' pa = some (.lst (L.map Vn)) ∧ ((bs + 1 = b ∧ L = Pws p m t b) ∨ (bs + 1 < b ∧ L.length < p ^ m - 1)), ?_, ?_⟩
      · rintro σ' H' ⟨s2, pa2, s5, n2, rfl, L2, e2, h2⟩
        refine ⟨_, ?_, rfl, s2, bs + 1, pa2, s5, n2, rfl, L2, e2, h2⟩
        show b - (bs + 1) < b - bs; omega
      refine ⟨_, rfl, _, _, rfl, rfl, ?_⟩
      refine ⟨szl 1, fun l1 hl1 => ?_⟩
      refine ⟨_, rfl, _, _, rfl, rfl, _, _, _, rfl, ?_⟩
      have n1 : H l1 = none := by
        cases e : H l1 with
        | none => rfl
        | some o => rw [s1 _ _ e] at hl1; cases hl1
      have hb1 : bs + 1 < p ^ m := by omega
      have nfa : fa ≠ l1 := zaf hf n1
      refine zaK (fun σ H' => yaq l1 l1 H1 H' ∧ ∃ k, 1 ≤ k ∧ k ≤ p ^ m - 1 ∧ σ = [some (.ref fa), some (Vn (p ^ m)), some (.ref l1), some (Vn (bs + 1)), some (Vn (pw p m t (bs + 1) k)), none] ∧ H' l1 = some (.lst (((List.range k).map (pw p m t (bs + 1))).map Vn)) ∧ ∀ i, 0 < i → i < k → pw p m t (bs + 1) i ≠ 1)
        (fun _ H' => p ^ m - ycq H' l1) ⟨Same.x (yac hl1 _), 1, by omega, by omega, ?_, zac, fun i h1 h2 => by omega⟩ ?_
      · rw [ycX hp hm hb1]; rfl
      rintro σ H2 ⟨sx2, k, hk1, hk2, rfl, e2, hne⟩
      have hlen : ycq H2 l1 = k := by rw [ya0 e2]; simp
      refine ⟨_, rfl, rfl, _, rfl, ?_⟩
      refine ite2 (fun c => ?_) (fun c => ?_)
      · have hk : pw p m t (bs + 1) k ≠ 1 := by
          intro e
          rw [e] at c
          exact absurd c (by decide)
        have hk3 : k < p ^ m - 1 := by
          rcases Nat.lt_or_ge k (p ^ m - 1) with h | h
          · exact h
          · have : k = p ^ m - 1 := by omega
            rw [this] at hk
            exact absurd (G.fermat (by omega) hb1) hk
        have hf2 : H2 fa = some (.tup [Vn p, Vn m, Vn t]) := sx2 _ _ nfa nfa (s1 _ _ hf)
        have e3 : ((List.range k).map (pw p m t (bs + 1))).map Vn ++ [Vn (pw p m t (bs + 1) k)] = ((List.range (k + 1)).map (pw p m t (bs + 1))).map Vn := by
          rw [List.range_succ, List.map_append, List.map_append]; rfl
        refine ⟨fun σ' H' => yaq l1 l1 H1 H' ∧ σ' = [some (.ref fa), some (Vn (p ^ m)), some (.ref l1), some (Vn (bs + 1)), some (Vn (pw p m t (bs + 1) (k + 1))), none] ∧ H' l1 = some (.lst (((List.range (k + 1)).map (pw p m t (bs + 1))).map Vn)), ?_, ?_⟩
        · rintro σ' H' ⟨a1, rfl, a3⟩
          have hl2 : ycq H' l1 = k + 1 := by rw [ya0 a3]; simp
          refine ⟨_, ?_, rfl, a1, k + 1, by omega, by omega, rfl, a3, fun i h1 h2 => ?_⟩
          · show p ^ m - ycq H' l1 < p ^ m - ycq H2 l1; rw [hl2, hlen]; omega
          · rcases Nat.lt_or_ge i k with h | h
            · exact hne i h1 h
            · rw [show i = k by omega]; exact hk
        refine ⟨_, rfl, .inl ⟨rfl, _, SqL.of e2⟩, _, rfl, ?_⟩
        refine ⟨l1, _, _, rfl, rfl, e2, by simp only [List.length_map, List.length_range]; exact zak (by omega), ?_⟩
        rw [e3]
        have s3 : yaq l1 l1 H1 (upd H2 l1 (.lst (((List.range (k + 1)).map (pw p m t (bs + 1))).map Vn))) := yeg sx2
        refine ⟨_, rfl, _, rfl, _, rfl, fa, p, m, t, pw p m t (bs + 1) k, bs + 1, rfl, SqT.of (by rw [zag nfa]; exact hf2), hp, hm, hpm, ht, ycP hp hm _ _, hb1, fun r H4 s4' br hr => ?_⟩
        have e := zdc hp hm br hr
        subst e
        exact ⟨s3.trans (Same.x s4'), rfl, s4' _ _ zac⟩
      · have hk : pw p m t (bs + 1) k = 1 := by
          rcases Nat.decEq (pw p m t (bs + 1) k) 1 with h | h
          · exfalso
            refine c ?_
            rw [decide_eq_false]; rfl
            intro e; injection e with e; exact h (by omega)
          · exact h
        refine ⟨(s1.trans (ycC (sx2) hl1)), l1, _, n1, rfl, _, e2, ?_⟩
        rcases Nat.lt_or_ge (bs + 1) b with h | h
        · refine .inr ⟨h, ?_⟩
          obtain ⟨i, i0, i1, ie⟩ := Pb.low (bs + 1) (by omega) h
          simp only [List.length_map, List.length_range]
          rcases Nat.lt_or_ge i k with h3 | h3
          · exact absurd ie (hne i i0 h3)
          · omega
        · have hbb : bs + 1 = b := by omega
          refine .inl ⟨hbb, ?_⟩
          rw [hbb] at hk ⊢
          have : k = p ^ m - 1 := by
            rcases Nat.lt_or_ge k (p ^ m - 1) with h3 | h3
            · exact absurd hk (Pb.min k (by omega) h3)
            · omega
          rw [this]; rfl
    · have c' : ¬ L.length < p ^ m - 1 := by
        intro h; exact c (decide_eq_true (by omega))
      rcases hL with ⟨rfl, rfl⟩ | h
      · exact hD _ _ ⟨s1, pa, s4, npa, ePa, rfl⟩
      · exact absurd h.2 c'
theorem yfJ {fa pa la : Addr} {p m : Nat} : valV (tabD fa pa la p m) (.inr "p") = some (Vn p) := rfl
theorem zfV {fa pa la : Addr} {p m : Nat} : valV (tabD fa pa la p m) (.inr "m") = some (Vn m) := rfl
theorem zdR {fa pa la : Addr} {p m : Nat} : valV (tabD fa pa la p m) (.inr "many") = some (Vn (p ^ m)) := rfl
theorem yd2 {fa pa la : Addr} {p m : Nat} : valV (tabD fa pa la p m) (.inr "powers") = some (.ref pa) := rfl
theorem zdP {fa pa la : Addr} {p m : Nat} : valV (tabD fa pa la p m) (.inr "logs") = some (.ref la) := rfl
theorem yeN {fa pa la : Addr} {p m : Nat} : valV (tabD fa pa la p m) (.inr "field") = some (.ref fa) := rfl
theorem Tab.get {H : Hp} {tb fa pa la : Addr} {p m t b : Nat} (T : Tab H tb fa pa la p m t b) {x : Str} {v : V} (h : valV (tabD fa pa la p m) (.inr x) = some v) : DGet H tb (.str x) (some v) := by
  rw [← h]; exact DGet.k (k := .inr x) T.d
theorem Tab.log {H : Hp} {tb fa pa la : Addr} {p m t b : Nat} (T : Tab H tb fa pa la p m t b) {i : Nat} (h : i < p ^ m - 1) : DGet H la (Vn (pw p m t b i)) (some (Vn i)) := by
  have e : valV (Logs p m t b) (.inl ((pw p m t b i : Nat) : Int)) = some (Vn i) := by
    unfold Logs
    refine zdU _ _ rfl (fun i j hi hj e => T.good.inj T.prim i j hi hj ?_) i h
    injection e with e
    omega
  rw [← e]; exact DGet.k (k := .inl ((pw p m t b i : Nat) : Int)) T.l
theorem zdM (x : Nat) : decide (Vn x = V.int 0) = decide (x = 0) := decide_eq_decide.mpr ⟨fun e => by injection e with e; omega, fun e => by rw [e]; rfl⟩
noncomputable def ydg : Sp := fun vs H Q _ => ∃ (tb fa pa la : Addr) (p m t b x y : Nat), vs = [.ref tb, Vn x, Vn y] ∧ Tab H tb fa pa la p m t b ∧ x < p ^ m ∧ y < p ^ m ∧ Q (Vn (mul p m t x y)) H
theorem zbK : yaj ["_law_table_here", "_law_one", "_law_other", "_law_at"] ["_law_table_here", "_law_one", "_law_other"] (zae zby) := ⟨rfl, rfl, rfl, by decide +kernel, rfl, by decide +kernel, by decide +kernel⟩
theorem zea (B : Bl mg) (F : Fun K "_law_times" "_law_times" zby f fd) : FnOk P w K mg base CX0 1 f fd ["_law_table_here", "_law_one", "_law_other"] ydg := by
  refine F.ok zbK (fun vs H Q E h => ?_) (fun cdv A outer s H vs Q E hr h => ?_)
  · obtain ⟨tb, fa, pa, la, p, m, t, b, x, y, rfl, _⟩ := h; rfl
  obtain ⟨tb, fa, pa, la, p, m, t, b, x, y, rfl, T, hx, hy, q⟩ := h
  have hp := T.good.hp
  have hm := T.good.hm
  refine ⟨_, (@yaa _ _ _ _ _ (@zaC _ _ _ _ _ _ _ _ (@PW.pt _ _ _ (@zbE _ _ _ _ _ _ _ (@zai _ _ _ _ _ _ _ _ zbx (pv 1) yab (zam _)) (@za1 _ _ _ _ (@zai _ _ _ _ _ _ _ _ zbx (pv 2) yab (zam _))))) (@zad _ _ _ (@zaj _ _ _ _ yab)) yam) (@yaa _ _ _ _ _ (@yag _ _ 3 _ _ _ _ zbK.nd rfl (Or.inl rfl) (@zah _ _ _ _ _ _ _ _ yay (@zaS _ _ _ _ _ _ (yb0 hr) (@zaS _ _ _ _ _ _ (yb0 hr) (pv 0) zaT (fun _ _ => rfl)) (pv 1) (fun _ _ => rfl)) (@zaS _ _ _ _ _ _ (yb0 hr) (@zaS _ _ _ _ _ _ (yb0 hr) (pv 0) zaT (fun _ _ => rfl)) (pv 2) (fun _ _ => rfl))) (by rfl) (by first | exact .inl rfl | exact .inr rfl | assumption)) (@zad _ _ _ (@zaj _ _ _ _ (@zao _ _ _ _ _ _ _ zaq (@zaS _ _ _ _ _ _ (yb0 hr) (pv 0) zaT (fun _ _ => rfl)) (@zah _ _ _ _ _ _ _ _ zat (pv 3) (@zah _ _ _ _ _ _ _ _ zbX (@zaS _ _ _ _ _ _ (yb0 hr) (pv 0) zaT (fun _ _ => rfl)) yab)) (fun _ _ => rfl)))))), ?_⟩
  refine yfk (b1 := decide (x = 0)) (b2 := decide (y = 0)) (fun Q q => ⟨_, rfl, rfl, _, rfl, ?_⟩) (fun Q q => ⟨_, rfl, rfl, _, rfl, ?_⟩) ?_
  · rw [zdM]; exact q
  · rw [zdM]; exact q
  refine ite2 (fun c => ?_) (fun c => ?_)
  · have e : mul p m t x y = 0 := by
      simp only [Bool.or_eq_true, decide_eq_true_eq] at c
      rcases c with rfl | rfl
      · exact zero_mul hp hm _
      · exact mul_zero hp hm _
    rw [e] at q
    exact q
  · simp only [Bool.or_eq_true, decide_eq_true_eq, not_or] at c
    obtain ⟨i, hi, ei⟩ := T.prim.all x (by omega) hx
    obtain ⟨j, hj, ej⟩ := T.prim.all y (by omega) hy
    have hQ2 := ybE hp hm
    have hQ := T.good.hq
    have gi := T.log hi
    have gj := T.log hj
    rw [ei] at gi
    rw [ej] at gj
    refine ⟨_, rfl, tb, _, rfl, T.get zdP, _, rfl, la, _, rfl, gi, ?_⟩
    refine ⟨_, rfl, tb, _, rfl, T.get zdP, _, rfl, la, _, rfl, gj, _, _, rfl, rfl, ?_⟩
    refine ⟨_, rfl, tb, _, rfl, T.get yd2, ?_⟩
    refine ⟨_, rfl, _, rfl, tb, _, rfl, T.get zdR, _, _, rfl, rfl, _, _, rfl, rfl, by show (0 : Int) < ((p ^ m : Nat) : Int) - 1; omega, ?_⟩
    have ek : ((i : Int) + (j : Int)) % (((p ^ m : Nat) : Int) - 1) = (((i + j) % (p ^ m - 1) : Nat) : Int) := by
      rw [Int.natCast_emod, Int.natCast_add, Int.natCast_sub (by omega)]; rfl
    have hk : (i + j) % (p ^ m - 1) < p ^ m - 1 := Nat.mod_lt _ (by omega)
    refine ⟨pa, _, _, Vn (pw p m t b ((i + j) % (p ^ m - 1))), rfl, rfl, SqL.of T.w, ?_, ?_⟩
    · show atI _ (((i : Int) + (j : Int)) % (((p ^ m : Nat) : Int) - 1)) = _
      rw [ek]
      exact ybk (by unfold Pws; rw [List.getElem?_map, List.getElem?_map, List.getElem?_range hk]; rfl)
    · have e : pw p m t b ((i + j) % (p ^ m - 1)) = mul p m t x y := by
        rw [T.good.pw_mod T.prim.pos T.prim.lt, ybX hp hm, ei, ej]
      rw [e]
      exact q
end
end My
end
section
-- text: P9
set_option Elab.async false
set_option linter.all false
set_option maxRecDepth 100000
set_option maxHeartbeats 4000000
namespace My
open PySem L2 Dg
theorem yaX {ws : List Nat} {i : Nat} (h : i < ws.length) : (ws.map Vn)[i]? = some (Vn (ws.getD i 0)) := by
  rw [List.getElem?_map, List.getElem?_eq_getElem h]; simp [List.getD, h]
theorem ycN {H H' : Hp} {l : Addr} {o : HO} (s : Same H H') (h : H l = none) : Same H (upd H' l o) := fun b u e => by rw [zag (zaf e h)]; exact s _ _ e
theorem mapI (ns : List Nat) : (ns.map fun n : Nat => (n : Int)).map V.int = ns.map Vn := by rw [List.map_map]; rfl
structure yeR (pu g tb fa pa la : Addr) : Prop where
  a1 : tb ≠ pu
  a2 : tb ≠ g
  b1 : fa ≠ pu
  b2 : fa ≠ g
  c1 : pa ≠ pu
  c2 : pa ≠ g
  d1 : la ≠ pu
  d2 : la ≠ g
theorem Tab.x {H H' : Hp} {pu g tb fa pa la : Addr} {p m t b : Nat} (T : Tab H tb fa pa la p m t b) (a : yeR pu g tb fa pa la) (s : yaq pu g H H') : Tab H' tb fa pa la p m t b :=
  ⟨s _ _ a.a1 a.a2 T.d, s _ _ a.b1 a.b2 T.f, s _ _ a.c1 a.c2 T.w, s _ _ a.d1 a.d2 T.l, T.good, T.prim⟩
section
variable {P : Program} {w : World} {K : PySem.W.Frag} {mg : Str → Option Value} {base : Heap} {f : Addr} {fd : FuncData}
end
end My
end
section
-- text: PA
set_option Elab.async false
set_option linter.all false
set_option maxRecDepth 100000
set_option maxHeartbeats 4000000
namespace My
open PySem L2 Dg
section
variable {p m t : Nat} (hp : 2 ≤ p) (hm : 1 ≤ m)
include hp hm
end
section
variable {P : Program} {w : World} {K : PySem.W.Frag} {mg : Str → Option Value} {base : Heap} {f : Addr} {fd : FuncData}
end
end My
end
section
-- text: PB
set_option Elab.async false
set_option linter.all false
set_option maxRecDepth 100000
set_option maxHeartbeats 4000000
namespace My
open PySem L2 Dg
section
variable {p m t : Nat} (hp : 2 ≤ p) (hm : 1 ≤ m)
include hp hm
end
section
variable {P : Program} {w : World} {K : PySem.W.Frag} {mg : Str → Option Value} {base : Heap} {f : Addr} {fd : FuncData}
end
end My
end
section
-- text: PC
set_option Elab.async false
set_option linter.all false
set_option maxRecDepth 100000
set_option maxHeartbeats 4000000
namespace My
open PySem L2 Dg
section
variable {P : Program} {w : World} {K : PySem.W.Frag} {mg : Str → Option Value} {base : Heap} {f : Addr} {fd : FuncData}
end
end My
end
section
-- text: PD
set_option Elab.async false
set_option linter.all false
set_option maxRecDepth 100000
set_option maxHeartbeats 4000000
namespace My
open PySem L2 Dg
structure Ord (p m t x n : Nat) : Prop where
  pos : 1 ≤ n
  one : pw p m t x n = 1
  min : ∀ i, 0 < i → i < n → pw p m t x i ≠ 1
theorem Ord.le {p m t x n k : Nat} (o : Ord p m t x n) (h0 : 0 < k) (h : pw p m t x k = 1) : n ≤ k := by
  rcases Nat.lt_or_ge k n with h1 | h1
  · exact absurd h (o.min k h0 h1)
  · exact h1
theorem Ord.uniq {p m t x n k : Nat} (o : Ord p m t x n) (o' : Ord p m t x k) : n = k := Nat.le_antisymm (o.le o'.pos o'.one) (o'.le o.pos o.one)
theorem ydQ (x : Nat) : decide (Vn x = V.int 1) = decide (x = 1) := decide_eq_decide.mpr ⟨fun e => by injection e with e; omega, fun e => by rw [e]; rfl⟩
section
variable {P : Program} {w : World} {K : PySem.W.Frag} {mg : Str → Option Value} {base : Heap} {f : Addr} {fd : FuncData}
noncomputable def zdA (K : PySem.W.Frag) : Sp := fun vs H Q _ => ∃ (fa : Addr) (p m t x : Nat), vs = [.ref fa, Vn x] ∧ Fld K H fa p m t ∧ Good p m t ∧ 0 < x ∧ x < p ^ m ∧ ∀ n, Ord p m t x n → n ≤ p ^ m - 1 → Q (Vn n) H
theorem zaZ : yaj ["field", "one", "many", "product"] ["field", "one"] (zae ybT) := ⟨rfl, rfl, rfl, by decide +kernel, rfl, by decide +kernel, by decide +kernel⟩
theorem ze4 (B : Bl mg) (h_times : Has P w K mg base 3 "times" ["field", "one", "other"] (ycD K)) (F : Fun K "round_of" "round_of" ybT f fd) : FnOk P w K mg base CX0 4 f fd ["field", "one"] (zdA K) := by
  refine F.ok zaZ (fun vs H Q E h => ?_) (fun cdv A outer s H vs Q E hr h => ?_)
  · obtain ⟨fa, p, m, t, x, rfl, _⟩ := h; rfl
  obtain ⟨fa, p, m, t, x, rfl, hF, G, h0, hx, q⟩ := h
  have hp := G.hp
  have hm := G.hm
  have hQ := G.hq
  have hQ2 := ybE hp hm
  refine ⟨_, (@yaa _ _ _ _ _ (@yag _ _ 2 _ _ _ _ zaZ.nd rfl (Or.inl rfl) yab (by rfl) (by first | exact .inl rfl | exact .inr rfl | assumption)) (@yaa _ _ _ _ _ (@yag _ _ 3 _ _ _ _ zaZ.nd rfl (Or.inl rfl) (pv 1) (by rfl) (by first | exact .inl rfl | exact .inr rfl | assumption)) (@yaa _ _ _ _ _ (@zaJ _ _ _ _ _ _ PassesOwn.never (@zai _ _ _ _ _ _ _ _ zcN (pv 3) yab (zam _)) (@yaa _ _ _ _ _ (@yag _ _ 3 _ _ _ _ zaZ.nd rfl (Or.inl rfl) (@yad _ _ _ _ _ _ _ _ _ _ _ h_times hr (by decide) rfl (@zaa _ _ _ _ _ (pv 0) (@zaa _ _ _ _ _ (pv 3) (@zaa _ _ _ _ _ (pv 1) zab (by rfl)) (by rfl)) (by rfl)) (by decide) (by rfl) (by rfl)) (by rfl) (by first | exact .inl rfl | exact .inr rfl | assumption)) (@zad _ _ _ (@zbr _ _ 2 _ _ _ _ _ _ zaZ.nd rfl (Or.inl rfl) yab zdj (by first | exact .inl rfl | exact .inr rfl | assumption))))) (@zad _ _ _ (@zaj _ _ _ _ (pv 2)))))), ?_⟩
  refine ⟨_, rfl, ?_⟩
  refine zaK (fun σ H' => H' = H ∧ ∃ k, 1 ≤ k ∧ k ≤ p ^ m - 1 ∧ σ = [some (.ref fa), some (Vn x), some (Vn k), some (Vn (pw p m t x k))] ∧ ∀ i, 0 < i → i < k → pw p m t x i ≠ 1) (fun σ _ => p ^ m - mI σ 2) ⟨rfl, 1, by omega, by omega, by rw [ycX hp hm hx]; rfl, fun i h1 h2 => by omega⟩ ?_
  rintro σ H' ⟨rfl, k, hk1, hk2, rfl, hne⟩
  refine ⟨_, rfl, rfl, _, rfl, ?_⟩
  rw [ydQ]
  refine ite2 (fun c => ?_) (fun c => ?_)
  · have hk : pw p m t x k ≠ 1 := by
      intro e
      rw [decide_eq_true e] at c
      exact absurd c (by decide)
    have hk3 : k < p ^ m - 1 := by
      rcases Nat.lt_or_ge k (p ^ m - 1) with h | h
      · exact h
      · have : k = p ^ m - 1 := by omega
        rw [this] at hk
        exact absurd (G.fermat h0 hx) hk
    refine ⟨fun σ' H'' => H'' = H' ∧ σ' = [some (.ref fa), some (Vn x), some (Vn (k + 1)), some (Vn (pw p m t x (k + 1)))], ?_, ?_⟩
    · rintro σ' H'' ⟨rfl, rfl⟩
      refine ⟨_, ?_, rfl, rfl, k + 1, by omega, by omega, rfl, fun i h1 h2 => ?_⟩
      · show p ^ m - (k + 1) < p ^ m - k; omega
      · rcases Nat.lt_or_ge i k with h | h
        · exact hne i h1 h
        · rw [show i = k by omega]; exact hk
    · refine ⟨_, rfl, _, rfl, _, rfl, fa, p, m, t, pw p m t x k, x, rfl, hF, hp, hm, hQ, G.top, ycP hp hm _ _, hx, fun r br h1 => ?_⟩
      cases zdc hp hm br h1
      exact ⟨_, rfl, _, _, rfl, rfl, rfl, rfl⟩
  · have hk : pw p m t x k = 1 := by
      rcases Nat.decEq (pw p m t x k) 1 with h | h
      · exact absurd (by rw [decide_eq_false h]; rfl) c
      · exact h
    exact ⟨_, rfl, q k ⟨hk1, hk, hne⟩ hk2⟩
noncomputable def zb9 (K : PySem.W.Frag) : Sp := fun vs H Q _ => ∃ (wa fa : Addr) (p m t few x : Nat) (mv : V), vs = [.ref wa] ∧ SqT K H wa [.ref fa, Vn few, Vn x, mv] ∧ Fld K H fa p m t ∧ Good p m t ∧ 0 < x ∧ x < p ^ m ∧ ∀ n, Ord p m t x n → n ≤ p ^ m - 1 → Q (Vn n) H
theorem yd5 : yaj ["wheel"] ["wheel"] (zae zcS) := ⟨rfl, rfl, rfl, by decide +kernel, rfl, by decide +kernel, by decide +kernel⟩
theorem yea (B : Bl mg) (h_round_of : Has P w K mg base 4 "round_of" ["field", "one"] (zdA K)) (F : Fun K "length" "length" zcS f fd) : FnOk P w K mg base CX0 5 f fd ["wheel"] (zb9 K) := by
  refine F.ok yd5 (fun vs H Q E h => ?_) (fun cdv A outer s H vs Q E hr h => ?_)
  · obtain ⟨wa, fa, p, m, t, few, x, mv, rfl, _⟩ := h; rfl
  obtain ⟨wa, fa, p, m, t, few, x, mv, rfl, hw, hF, G, h0, hx, q⟩ := h
  refine ⟨_, (@zad _ _ _ (@zaj _ _ _ _ (@yad _ _ _ _ _ _ _ _ _ _ _ h_round_of hr (by decide) rfl (@zaa _ _ _ _ _ (@zao _ _ _ _ _ _ _ zav (pv 0) yab (fun _ _ => rfl)) (@zaa _ _ _ _ _ (@zao _ _ _ _ _ _ _ zav (pv 0) yab (fun _ _ => rfl)) zab (by rfl)) (by rfl)) (by decide) (by rfl) (by rfl)))), ?_⟩
  refine ⟨_, rfl, wa, _, _, _, rfl, rfl, hw, rfl, ?_⟩
  refine ⟨_, rfl, wa, _, _, _, rfl, rfl, hw, rfl, ?_⟩
  exact ⟨fa, p, m, t, x, rfl, hF, G, h0, hx, q⟩
noncomputable def ycb : Sp := fun vs H Q _ => ∃ (tb fa pa la : Addr) (p m t b x : Nat), vs = [.ref tb, Vn x] ∧ Tab H tb fa pa la p m t b ∧ 0 < x ∧ x < p ^ m ∧ ∀ n, Ord p m t x n → n ≤ p ^ m - 1 → Q (Vn n) H
theorem ybm : yaj ["_law_table_here", "_law_one", "_law_many", "_law_thing"] ["_law_table_here", "_law_one"] (zae zbt) := ⟨rfl, rfl, rfl, by decide +kernel, rfl, by decide +kernel, by decide +kernel⟩
theorem yev (B : Bl mg) (h__law_times : Has P w K mg base 1 "_law_times" ["_law_table_here", "_law_one", "_law_other"] ydg) (F : Fun K "_law_round" "_law_round" zbt f fd) : FnOk P w K mg base CX0 2 f fd ["_law_table_here", "_law_one"] ycb := by
  refine F.ok ybm (fun vs H Q E h => ?_) (fun cdv A outer s H vs Q E hr h => ?_)
  · obtain ⟨tb, fa, pa, la, p, m, t, b, x, rfl, _⟩ := h; rfl
  obtain ⟨tb, fa, pa, la, p, m, t, b, x, rfl, T, h0, hx, q⟩ := h
  have G := T.good
  have hp := G.hp
  have hm := G.hm
  have hQ := G.hq
  have hQ2 := ybE hp hm
  refine ⟨_, (@yaa _ _ _ _ _ (@zct _ _ 2 3 _ _ _ _ _ _ _ _ _ _ _ rfl ybm.nd rfl rfl (by decide) rfl rfl (@zaa _ _ _ _ _ yab (@zaa _ _ _ _ _ (pv 1) zab (by rfl)) (by rfl)) rfl (by rfl)) (@yaa _ _ _ _ _ (@zaJ _ _ _ _ _ _ PassesOwn.never (@zai _ _ _ _ _ _ _ _ zcN (pv 3) yab (zam _)) (@zad _ _ _ (@zct _ _ 2 3 _ _ _ _ _ _ _ _ _ _ _ rfl ybm.nd rfl rfl (by decide) rfl rfl (@zaa _ _ _ _ _ (@zah _ _ _ _ _ _ _ _ yay (pv 2) yab) (@zaa _ _ _ _ _ (@yad _ _ _ _ _ _ _ _ _ _ _ h__law_times hr (by decide) rfl (@zaa _ _ _ _ _ (pv 0) (@zaa _ _ _ _ _ (pv 3) (@zaa _ _ _ _ _ (pv 1) zab (by rfl)) (by rfl)) (by rfl)) (by decide) (by rfl) (by rfl)) zab (by rfl)) (by rfl)) rfl (by rfl)))) (@zad _ _ _ (@zaj _ _ _ _ (pv 2))))), ?_⟩
  refine ⟨_, rfl, _, _, rfl, ?_⟩
  refine zaK (fun σ H' => H' = H ∧ ∃ k, 1 ≤ k ∧ k ≤ p ^ m - 1 ∧ σ = [some (.ref tb), some (Vn x), some (Vn k), some (Vn (pw p m t x k))] ∧ ∀ i, 0 < i → i < k → pw p m t x i ≠ 1) (fun σ _ => p ^ m - mI σ 2) ⟨rfl, 1, by omega, by omega, by rw [ycX hp hm hx]; rfl, fun i h1 h2 => by omega⟩ ?_
  rintro σ H' ⟨rfl, k, hk1, hk2, rfl, hne⟩
  refine ⟨_, rfl, rfl, _, rfl, ?_⟩
  rw [ydQ]
  refine ite2 (fun c => ?_) (fun c => ?_)
  · have hk : pw p m t x k ≠ 1 := by
      intro e
      rw [decide_eq_true e] at c
      exact absurd c (by decide)
    have hk3 : k < p ^ m - 1 := by
      rcases Nat.lt_or_ge k (p ^ m - 1) with h | h
      · exact h
      · have : k = p ^ m - 1 := by omega
        rw [this] at hk
        exact absurd (G.fermat h0 hx) hk
    refine ⟨fun σ' H'' => H'' = H' ∧ σ' = [some (.ref tb), some (Vn x), some (Vn (k + 1)), some (Vn (pw p m t x (k + 1)))], ?_, ?_⟩
    · rintro σ' H'' ⟨rfl, rfl⟩
      refine ⟨_, ?_, rfl, rfl, k + 1, by omega, by omega, rfl, fun i h1 h2 => ?_⟩
      · show p ^ m - (k + 1) < p ^ m - k; omega
      · rcases Nat.lt_or_ge i k with h | h
        · exact hne i h1 h
        · rw [show i = k by omega]; exact hk
    · refine ⟨_, rfl, _, _, rfl, rfl, _, rfl, _, rfl, _, rfl, tb, fa, pa, la, p, m, t, b, pw p m t x k, x, rfl, T, ycP hp hm _ _, hx, ?_⟩
      exact ⟨_, _, rfl, rfl, rfl⟩
  · have hk : pw p m t x k = 1 := by
      rcases Nat.decEq (pw p m t x k) 1 with h | h
      · exact absurd (by rw [decide_eq_false h]; rfl) c
      · exact h
    exact ⟨_, rfl, q k ⟨hk1, hk, hne⟩ hk2⟩
theorem ze1 {xs : List V} {v : V} (h : xs[xs.length - 1]? = some v) : atI xs (-1) = some v := by
  have hl : 0 < xs.length := by
    have := (List.getElem?_eq_some_iff.mp h).1; omega
  unfold atI ixN
  rw [if_neg (by decide), if_pos (by omega)]
  show (some _).bind _ = _
  rw [Option.bind_some, ← h]
  congr 1
  omega
end
end My
end
section
-- text: PE
set_option Elab.async false
set_option linter.all false
set_option maxRecDepth 100000
set_option maxHeartbeats 4000000
namespace My
open PySem L2 Dg
local macro_rules | `(tactic| walk_at "rd") => `(tactic| repeat (first | refine ⟨_, rfl, ?_⟩ | refine ⟨_, _, rfl, rfl, ?_⟩))
section
variable {p m t : Nat} (G : Good p m t)
include G
theorem yfq {x k : Nat} (hx : x < p ^ m) : pw p m t x k = mul p m t (if k % 2 = 1 then x else 1) (pw p m t (mul p m t x x) (k / 2)) := by
  have e2 : pw p m t x 2 = mul p m t x x := by show mul p m t (mul p m t 1 x) x = _; rw [one_mul G.hp G.hm hx]
  by_cases c : k % 2 = 1
  · rw [if_pos c, ← e2, ← zci G.hp G.hm]
    rw [show pw p m t x k = pw p m t x (1 + 2 * (k / 2)) by congr 1; omega, ybX G.hp G.hm, ycX G.hp G.hm hx]
  · rw [if_neg c, ← e2, ← zci G.hp G.hm, one_mul G.hp G.hm (ycP G.hp G.hm _ _)]
    congr 1; omega
end
section
variable {P : Program} {w : World} {K : PySem.W.Frag} {mg : Str → Option Value} {base : Heap} {f : Addr} {fd : FuncData}
noncomputable def zcU (K : PySem.W.Frag) : Sp := fun vs H Q _ => ∃ (a : Addr) (p m t : Nat), vs = [.ref a] ∧ Fld K H a p m t ∧ p ≤ 64 ∧ m ≤ 1000 ∧ Q (Vn (p ^ m)) H
theorem ycp : yaj ["field"] ["field"] (zae zbg) := ⟨rfl, rfl, rfl, by decide +kernel, rfl, by decide +kernel, by decide +kernel⟩
theorem zfB (B : Bl mg) (h_number_power : Has P w K mg base 1 "number_power" ["base", "many"] yal) (F : Fun K "many_things" "many_things" zbg f fd) : FnOk P w K mg base CX0 2 f fd ["field"] (zcU K) := by
  refine F.ok ycp (fun vs H Q E h => ?_) (fun cdv A outer s H vs Q E hr h => ?_)
  · obtain ⟨a, p, m, t, rfl, _⟩ := h; rfl
  obtain ⟨a, p, m, t, rfl, hF, hp, hm, q⟩ := h
  refine ⟨_, (@zad _ _ _ (@zaj _ _ _ _ (@yad _ _ _ _ _ _ _ _ _ _ _ h_number_power hr (by decide) rfl (@zaa _ _ _ _ _ (@zao _ _ _ _ _ _ _ zav (pv 0) yab (fun _ _ => rfl)) (@zaa _ _ _ _ _ (@zao _ _ _ _ _ _ _ zav (pv 0) yab (fun _ _ => rfl)) zab (by rfl)) (by rfl)) (by decide) (by rfl) (by rfl)))), ?_⟩
  refine ⟨_, rfl, a, _, _, _, rfl, rfl, hF, rfl, _, rfl, a, _, _, _, rfl, rfl, hF, rfl, p, m, rfl, hp, hm, q⟩
noncomputable def zc2 (K : PySem.W.Frag) : Sp := fun vs H Q _ => ∃ (a : Addr) (p m t x n : Nat), vs = [.ref a, Vn x, Vn n] ∧ Fld K H a p m t ∧ Good p m t ∧ x < p ^ m ∧ Q (Vn (pw p m t x n)) H
theorem zay : yaj ["field", "one", "many", "product"] ["field", "one", "many"] (zae za8) := ⟨rfl, rfl, rfl, by decide +kernel, rfl, by decide +kernel, by decide +kernel⟩
theorem yd9 (B : Bl mg) (h_times : Has P w K mg base 3 "times" ["field", "one", "other"] (ycD K)) (F : Fun K "times_itself" "times_itself" za8 f fd) : FnOk P w K mg base CX0 4 f fd ["field", "one", "many"] (zc2 K) := by
  refine F.ok zay (fun vs H Q E h => ?_) (fun cdv A outer s H vs Q E hr h => ?_)
  · obtain ⟨a, p, m, t, x, n, rfl, _⟩ := h; rfl
  obtain ⟨a, p, m, t, x, n, rfl, hF, G, hx, q⟩ := h
  have hp := G.hp
  have hm := G.hm
  refine ⟨_, (@yaa _ _ _ _ _ (@yag _ _ 3 _ _ _ _ zay.nd rfl (Or.inl rfl) yab (by rfl) (by first | exact .inl rfl | exact .inr rfl | assumption)) (@yaa _ _ _ _ _ (@zaJ _ _ _ _ _ _ PassesOwn.never (@zai _ _ _ _ _ _ _ _ zb1 (pv 2) yab (zam _)) (@yaa _ _ _ _ _ (@zaC _ _ _ _ _ _ _ _ (@zai _ _ _ _ _ _ _ _ zbx (@zah _ _ _ _ _ _ _ _ zat (pv 2) yab) yab (zam _)) (@zad _ _ _ (@yag _ _ 3 _ _ _ _ zay.nd rfl (Or.inl rfl) (@yad _ _ _ _ _ _ _ _ _ _ _ h_times hr (by decide) rfl (@zaa _ _ _ _ _ (pv 0) (@zaa _ _ _ _ _ (pv 3) (@zaa _ _ _ _ _ (pv 1) zab (by rfl)) (by rfl)) (by rfl)) (by decide) (by rfl) (by rfl)) (by rfl) (by first | exact .inl rfl | exact .inr rfl | assumption))) yam) (@yaa _ _ _ _ _ (@zbr _ _ 2 _ _ _ _ _ _ zay.nd rfl (Or.inl rfl) yab zcj (by first | exact .inl rfl | exact .inr rfl | assumption)) (@zad _ _ _ (@zaC _ _ _ _ _ _ _ _ (@zai _ _ _ _ _ _ _ _ zb1 (pv 2) yab (zam _)) (@zad _ _ _ (@yag _ _ 1 _ _ _ _ zay.nd rfl (Or.inl rfl) (@yad _ _ _ _ _ _ _ _ _ _ _ h_times hr (by decide) rfl (@zaa _ _ _ _ _ (pv 0) (@zaa _ _ _ _ _ (pv 1) (@zaa _ _ _ _ _ (pv 1) zab (by rfl)) (by rfl)) (by rfl)) (by decide) (by rfl) (by rfl)) (by rfl) (by first | exact .inl rfl | exact .inr rfl | assumption))) yam))))) (@zad _ _ _ (@zaj _ _ _ _ (pv 3))))), ?_⟩
  refine zaK (fun σ H' => H' = H ∧ ∃ (o k pr : Nat), σ = [some (.ref a), some (Vn o), some (Vn k), some (Vn pr)] ∧ o < p ^ m ∧ pr < p ^ m ∧ mul p m t pr (pw p m t o k) = pw p m t x n)
    (fun σ _ => mI σ 2) ⟨rfl, x, n, 1, rfl, hx, ybE hp hm, one_mul hp hm (ycP hp hm _ _)⟩ ?_
  rintro σ H' ⟨rfl, o, k, pr, rfl, ho, hpr, he⟩
  walk_at "rd"
  refine ite2 (fun c => ?_) (fun c => ?_)
  · have c' : 0 < k := by have := of_decide_eq_true c; omega
    refine ⟨fun σ' H'' => H'' = H' ∧ ∃ (o' pr' : Nat), σ' = [some (.ref a), some (Vn o'), some (Vn (k / 2)), some (Vn pr')] ∧ o' < p ^ m ∧ pr' < p ^ m ∧ mul p m t pr' (pw p m t o' (k / 2)) = pw p m t x n, ?_, ?_⟩
    · rintro σ' H'' ⟨rfl, o', pr', rfl, b1, b2, b3⟩
      exact ⟨_, by show k / 2 < k; exact Nat.div_lt_self c' (by omega), rfl, rfl, o', k / 2, pr', rfl, b1, b2, b3⟩
    refine ya9 (fun σ' H'' => H'' = H' ∧ ∃ pr' : Nat, σ' = [some (.ref a), some (Vn o), some (Vn k), some (Vn pr')] ∧ pr' < p ^ m ∧ mul p m t pr' (pw p m t (mul p m t o o) (k / 2)) = pw p m t x n) ?_ ?_
    · rintro σ' H'' ⟨rfl, pr', rfl, hpr', he'⟩
      walk_at "rd"
      refine ⟨⟨by show (0 : Int) < 2; decide, by show (2 : Int) < 2 ^ 64; decide⟩, ?_⟩
      walk_at "rd"
      refine ite2 (fun c2 => ?_) (fun c2 => ?_)
      · refine ⟨_, rfl, _, rfl, _, rfl, a, p, m, t, o, o, rfl, hF, hp, hm, G.hq, G.top, ho, ho, fun r br hr => ?_⟩
        cases zdc hp hm br hr
        exact ⟨rfl, _, pr', rfl, zbF hp hm _ _, hpr', he'⟩
      · have k0 : k / 2 = 0 := by
          have := of_decide_eq_false (Bool.eq_false_iff.mpr c2)
          have e : ((k / 2 : Nat) : Int) = (k : Int) / 2 := rfl
          omega
        rw [k0] at he'
        refine ⟨rfl, o, pr', rfl, ho, hpr', ?_⟩
        rw [k0]; exact he'
    · intro D' _ _ _ hD'
      refine ⟨_, rfl, _, _, rfl, rfl, by show (0 : Int) < 2; decide, rfl, _, rfl, ?_⟩
      have ed : decide (V.int ((k : Int) % 2) = V.int 1) = decide (k % 2 = 1) := decide_eq_decide.mpr ⟨fun e => by injection e with e; omega, fun e => by congr 1; omega⟩
      rw [ed]
      rw [yfq G ho, ← mul_assoc hp hm] at he
      refine ite2 (fun c2 => ?_) (fun c2 => ?_)
      · have c3 : k % 2 = 1 := of_decide_eq_true c2
        rw [if_pos c3] at he
        refine ⟨_, rfl, _, rfl, _, rfl, a, p, m, t, pr, o, rfl, hF, hp, hm, G.hq, G.top, hpr, ho, fun r br hr => ?_⟩
        cases zdc hp hm br hr
        exact hD' _ _ ⟨rfl, _, rfl, zbF hp hm _ _, he⟩
      · have c3 : ¬ k % 2 = 1 := fun h => c2 (decide_eq_true h)
        rw [if_neg c3, mul_one hp hm hpr] at he
        exact hD' _ _ ⟨rfl, _, rfl, hpr, he⟩
  · have c' : k = 0 := by have := of_decide_eq_false (Bool.eq_false_iff.mpr c); omega
    subst c'
    refine ⟨_, rfl, ?_⟩
    have e : pr = pw p m t x n := by rw [← he]; exact (mul_one hp hm hpr).symm
    rw [e]
    exact q
end
end My
end
section
-- text: PF
set_option Elab.async false
set_option linter.all false
set_option maxRecDepth 100000
set_option maxHeartbeats 4000000
namespace My
open PySem L2 Dg
local macro_rules | `(tactic| walk_at "rd") => `(tactic| repeat (first | refine ⟨_, rfl, ?_⟩ | refine ⟨_, _, rfl, rfl, ?_⟩))
section
variable {P : Program} {w : World} {K : PySem.W.Frag} {mg : Str → Option Value} {base : Heap} {f : Addr} {fd : FuncData}
end
end My
end
section
-- text: PJ
set_option Elab.async false
set_option linter.all false
set_option maxRecDepth 100000
set_option maxHeartbeats 4000000
namespace My
open PySem L2 Dg
local macro_rules | `(tactic| walk_at "rd") => `(tactic| repeat (first | refine ⟨_, rfl, ?_⟩ | refine ⟨_, _, rfl, rfl, ?_⟩))
section
variable {p m t : Nat} (G : Good p m t)
include G
theorem Ord.dvd {x n k : Nat} (hx : x < p ^ m) (o : Ord p m t x n) (h : pw p m t x k = 1) : k % n = 0 := by
  have hp := G.hp
  have hm := G.hm
  rcases Nat.eq_zero_or_pos (k % n) with c | c
  · exact c
  · have e : pw p m t x (n * (k / n) + k % n) = 1 := by rw [Nat.div_add_mod]; exact h
    rw [ybX hp hm, zci hp hm, o.one, ydE hp hm, one_mul hp hm (ycP hp hm _ _)] at e
    exact absurd e (o.min _ c (Nat.mod_lt _ (by have := o.pos; omega)))
theorem Ord.round {x n few : Nat} (h0 : 0 < x) (hx : x < p ^ m) (o : Ord p m t x n) (hf : m % few = 0) (hf1 : 1 ≤ few) : (p ^ few) ^ (m / few) % n = 1 % n := by
  have hp := G.hp
  have hm := G.hm
  have h1 := Ord.dvd G hx o (G.fermat h0 hx)
  have hQ := ybE hp hm
  have e : few * (m / few) = m := by have := Nat.div_add_mod m few; rw [hf] at this; omega
  rw [← Nat.pow_mul, e]
  obtain ⟨c, hc⟩ := Nat.dvd_of_mod_eq_zero h1
  rw [show p ^ m = 1 + n * c by omega, Nat.add_mul_mod_self_left]
end
section
variable {P : Program} {w : World} {K : PySem.W.Frag} {mg : Str → Option Value} {base : Heap} {f : Addr} {fd : FuncData}
noncomputable def zas (i n q L : Nat) : List Nat := (List.range L).map fun j => i * q ^ j % n
theorem yc3 {i n q L j : Nat} (h : j < L) : (zas i n q L).getD j 0 = i * q ^ j % n := by unfold zas; rw [List.getD_eq_getElem?_getD, List.getElem?_map, List.getElem?_range h]; rfl
theorem yc2 {q e n : Nat} (hr : q ^ e % n = 1 % n) (he : 1 ≤ e) (i a : Nat) : i * q ^ a * q ^ (e * a - a) % n = i % n := by
  have h : a ≤ e * a := Nat.le_mul_of_pos_left a he
  rw [Nat.mul_assoc, ← Nat.pow_add, show a + (e * a - a) = e * a by omega, Nat.pow_mul, Nat.mul_mod, Nat.pow_mod, hr, ← Nat.pow_mod, Nat.one_pow, ← Nat.mul_mod, Nat.mul_one]
theorem ydY {i n q e L : Nat} (hr : q ^ e % n = 1 % n) (he : 1 ≤ e) (h : ∀ j, 0 < j → j < L → i * q ^ j % n ≠ i % n) : (zas i n q L).Nodup := by
  refine zbz _ fun a b ha hb e1 => ?_
  have key : ∀ a b : Nat, a < b → b < L → i * q ^ a % n = i * q ^ b % n → False := fun a b hab hb e1 => by
    refine h (b - a) (by omega) (by omega) ?_
    have e2 := yc2 hr he i a
    rw [Nat.mul_mod, e1, ← Nat.mul_mod, show i * q ^ b = i * q ^ (b - a) * q ^ a by rw [Nat.mul_assoc, ← Nat.pow_add, show b - a + a = b by omega], yc2 hr he] at e2
    exact e2
  rcases Nat.lt_trichotomy a b with h1 | h1 | h1
  · exact (key a b h1 hb e1).elim
  · exact h1
  · exact (key b a h1 ha e1.symm).elim
theorem ye5 {i n q L : Nat} (heq : i * q ^ L % n = i * q ^ 0 % n) (hL : 0 < L) (j : Nat) : i * q ^ j % n ∈ zas i n q L := by
  induction j with
  | zero => exact List.mem_map.mpr ⟨0, List.mem_range.mpr hL, rfl⟩
  | succ j ih =>
    obtain ⟨k, hk, ek⟩ := List.mem_map.mp ih
    have hk := List.mem_range.mp hk
    have e2 : i * q ^ (j + 1) % n = i * q ^ (k + 1) % n := by
      rw [Nat.pow_succ, Nat.pow_succ, ← Nat.mul_assoc, ← Nat.mul_assoc, Nat.mul_mod, ← ek, ← Nat.mul_mod]
    rw [e2]
    by_cases c : k + 1 < L
    · exact List.mem_map.mpr ⟨k + 1, List.mem_range.mpr c, rfl⟩
    · rw [show k + 1 = L by omega, heq]
      exact List.mem_map.mpr ⟨0, List.mem_range.mpr hL, rfl⟩
noncomputable def zb4 : Sp := fun vs H Q _ => ∃ (i n q e : Nat), vs = [Vn i, Vn n, Vn q] ∧ 0 < n ∧ n ≤ 64 ∧ q ≤ 64 ∧ 1 ≤ e ∧ e ≤ 6 ∧ q ^ e % n = 1 % n ∧
  ∀ r (ns : List Nat) H', Same H H' → H r = none → H' r = some (.lst (ns.map Vn)) → 0 < ns.length → ns.length ≤ 6 → (∀ x ∈ ns, x < n) → (∀ x ∈ ns, x * q % n ∈ ns) → ns.Nodup → (∀ x ∈ ns, ∃ j, x = i * q ^ j % n) → (∀ j, i * q ^ j % n ∈ ns) → Q (.ref r) H'
theorem zbW : yaj ["_law_i", "_law_n", "_law_q", "_law_found"] ["_law_i", "_law_n", "_law_q"] (zae zbI) := ⟨rfl, rfl, rfl, by decide +kernel, rfl, by decide +kernel, by decide +kernel⟩
theorem ye9 (B : Bl mg) (F : Fun K "_law_ring" "_law_ring" zbI f fd) : FnOk P w K mg base CX0 1 f fd ["_law_i", "_law_n", "_law_q"] zb4 := by
  refine F.ok zbW (fun vs H Q E h => ?_) (fun cdv A outer s H vs Q E hr h => ?_)
  · obtain ⟨i, n, q, e, rfl, _⟩ := h; rfl
  obtain ⟨i, n, q, e, rfl, hn, hn2, hq, he1, he2, hr1, q'⟩ := h
  refine ⟨_, (@yaa _ _ _ _ _ (@yag _ _ 3 _ _ _ _ zbW.nd rfl (Or.inl rfl) (@zaR _ _ _ _ (@zaa _ _ _ _ _ (@zah _ _ _ _ _ _ _ _ zat (pv 0) (pv 1)) zab (by rfl))) (by rfl) (by first | exact .inl rfl | exact .inr rfl | assumption)) (@yaa _ _ _ _ _ (@zaJ _ _ _ _ _ _ PassesOwn.never (@zai _ _ _ _ _ _ _ _ zcN (@zah _ _ _ _ _ _ _ _ zat (@zah _ _ _ _ _ _ _ _ yaK (@zao _ _ _ _ _ _ _ zaq (pv 3) (@zed _ _ _ _ _ _ zdh yab) (fun _ _ => rfl)) (pv 2)) (pv 1)) (@zao _ _ _ _ _ _ _ zaq (pv 3) yab (fun _ _ => rfl)) (zam _)) (@zad _ _ _ (@yby _ _ _ _ (@zc8 _ _ _ _ _ _ _ _ _ _ _ _ PySem.F.plainAttrs_list PySem.F.slot_list_append PySem.F.type_list_append yaY (pv 3) (@zaa _ _ _ _ _ (@zah _ _ _ _ _ _ _ _ zat (@zah _ _ _ _ _ _ _ _ yaK (@zao _ _ _ _ _ _ _ zaq (pv 3) (@zed _ _ _ _ _ _ zdh yab) (fun _ _ => rfl)) (pv 2)) (pv 1)) zab (by rfl)) (by rfl) (by rfl) (by rfl) (by rfl) (by rfl)) (by rfl)))) (@zad _ _ _ (@zaj _ _ _ _ (pv 3))))), ?_⟩
  refine ⟨_, rfl, _, rfl, _, _, rfl, rfl, by show (0 : Int) < n; omega, szl 1, fun l hl => ?_⟩
  dsimp only [yaC]
  refine zaK (fun σ H' => ∃ L : Nat, 1 ≤ L ∧ L ≤ e ∧ (∀ j, 0 < j → j < L → i * q ^ j % n ≠ i % n) ∧ H' = upd H l (.lst ((zas i n q L).map Vn)) ∧ σ = [some (Vn i), some (Vn n), some (Vn q), some (.ref l)]) (fun _ H' => 7 - ycq H' l) ⟨1, Nat.le_refl _, he1, fun j _ _ => by omega, by simp [zas]; rfl, rfl⟩ ?_
  rintro σ H' ⟨L, h1, h2, hne0, rfl, rfl⟩
  have el : upd H l (.lst ((zas i n q L).map Vn)) l = some (.lst ((zas i n q L).map Vn)) := zac
  have ll : (zas i n q L).length = L := by simp [zas]
  have hlast : atI ((zas i n q L).map Vn) (-1) = some (Vn (i * q ^ (L - 1) % n)) := ze1 (by rw [List.length_map, ll, yaX (by omega), yc3 (by omega)])
  have hfirst : atI ((zas i n q L).map Vn) 0 = some (Vn (i * q ^ 0 % n)) := ybk (j := 0) (by rw [yaX (by omega), yc3 (by omega)])
  have hml : i * q ^ (L - 1) % n < n := Nat.mod_lt _ hn
  refine ⟨_, rfl, _, rfl, l, _, _, _, rfl, rfl, SqL.of el, hlast, _, rfl, _, _, rfl, rfl, .inl ⟨by show -(2 ^ 64 : Int) < ((i * q ^ (L - 1) % n : Nat) : Int); omega, by show ((i * q ^ (L - 1) % n : Nat) : Int) < 2 ^ 64; omega⟩, ?_⟩
  refine ⟨_, rfl, _, _, rfl, rfl, by show (0 : Int) < n; omega, ?_⟩
  refine ⟨_, rfl, l, _, _, _, rfl, rfl, SqL.of el, hfirst, rfl, _, rfl, ?_⟩
  have en : (i * q ^ (L - 1) % n) * q % n = i * q ^ L % n := by
    rw [Nat.mod_mul_mod, Nat.mul_assoc, ← Nat.pow_succ, show (L - 1).succ = L by omega]
  have e0 : i * q ^ 0 % n = i % n := by rw [Nat.pow_zero, Nat.mul_one]
  refine ite2 (fun c => ?_) (fun c => ?_)
  · have hne : i * q ^ L % n ≠ i % n := by
      intro h
      have : (V.int ((((i * q ^ (L - 1) % n : Nat) : Int) * (q : Int)) % (n : Int))) = Vn (i * q ^ 0 % n) := by
        show V.int _ = V.int _
        congr 1
        rw [e0, ← h, ← en]; rfl
      rw [decide_eq_true this] at c
      exact absurd c (by decide)
    have hL : L < e := by
      rcases Nat.lt_or_ge L e with h | h
      · exact h
      · have hle : L = e := by omega
        rw [hle] at hne
        refine absurd ?_ hne
        rw [Nat.mul_mod, hr1, ← Nat.mul_mod, Nat.mul_one]
    refine ⟨fun σ' H' => H' = upd H l (.lst ((zas i n q (L + 1)).map Vn)) ∧ σ' = [some (Vn i), some (Vn n), some (Vn q), some (.ref l)], ?_, ?_⟩
    · rintro σ' H' ⟨rfl, rfl⟩
      refine ⟨_, ?_, rfl, L + 1, by omega, by omega, fun j j0 j1 => ?_, rfl, rfl⟩
      case refine_2 =>
        rcases Nat.lt_or_ge j L with h | h
        · exact hne0 j j0 h
        · rw [show j = L by omega]; exact hne
      rw [ya0 zac, ya0 zac, List.length_map, List.length_map, ll, show (zas i n q (L + 1)).length = L + 1 by simp [zas]]
      omega
    · refine ⟨_, rfl, .inl ⟨rfl, _, SqL.of el⟩, ?_⟩
      refine ⟨_, rfl, _, rfl, l, _, _, _, rfl, rfl, SqL.of el, hlast, _, rfl, _, _, rfl, rfl, .inl ⟨by show -(2 ^ 64 : Int) < ((i * q ^ (L - 1) % n : Nat) : Int); omega, by show ((i * q ^ (L - 1) % n : Nat) : Int) < 2 ^ 64; omega⟩, ?_⟩
      refine ⟨_, rfl, _, _, rfl, rfl, by show (0 : Int) < n; omega, ?_⟩
      refine ⟨l, _, _, rfl, rfl, el, by rw [List.length_map, ll]; exact zak (by omega), ?_, rfl⟩
      rw [zcH]
      congr 2
      have e1 : zas i n q (L + 1) = zas i n q L ++ [i * q ^ L % n] := by unfold zas; rw [List.range_succ, List.map_append]; rfl
      rw [e1, List.map_append, ← en]; rfl
  · have heq : i * q ^ L % n = i * q ^ 0 % n := by
      have h : decide (V.int ((((i * q ^ (L - 1) % n : Nat) : Int) * (q : Int)) % (n : Int)) = Vn (i * q ^ 0 % n)) = true := by
        rcases hb : decide (V.int ((((i * q ^ (L - 1) % n : Nat) : Int) * (q : Int)) % (n : Int)) = Vn (i * q ^ 0 % n)) with _ | _
        · exact absurd (show (!decide (V.int ((((i * q ^ (L - 1) % n : Nat) : Int) * (q : Int)) % (n : Int)) = Vn (i * q ^ 0 % n))) = true by rw [hb]; rfl) c
        · rfl
      have h2 := V.int.inj (of_decide_eq_true h)
      rw [← en]
      exact Int.ofNat.inj h2
    refine ⟨_, rfl, q' l (zas i n q L) _ (yac hl _) hl el (by rw [ll]; omega) (by rw [ll]; omega) (fun x hx => ?_) (fun x hx => ?_) ?_ (fun x hx => ?_) (ye5 heq (by omega))⟩
    rotate_left 2
    · refine ydY hr1 (by omega) hne0
    · obtain ⟨j, _, rfl⟩ := List.mem_map.mp hx
      exact ⟨j, rfl⟩
    · obtain ⟨j, _, rfl⟩ := List.mem_map.mp hx
      exact Nat.mod_lt _ hn
    · obtain ⟨j, hj, rfl⟩ := List.mem_map.mp hx
      have hj := List.mem_range.mp hj
      have e2 : i * q ^ j % n * q % n = i * q ^ (j + 1) % n := by rw [Nat.mod_mul_mod, Nat.mul_assoc, ← Nat.pow_succ]
      rw [e2]
      by_cases cj : j + 1 < L
      · exact List.mem_map.mpr ⟨j + 1, List.mem_range.mpr cj, rfl⟩
      · rw [show j + 1 = L by omega, heq]
        exact List.mem_map.mpr ⟨0, List.mem_range.mpr (by omega), rfl⟩
theorem ydJ (a b : Nat) : decide (V.int ((a : Int) % (b : Int)) = V.int 0) = decide (a % b = 0) :=
  decide_eq_decide.mpr ⟨fun e => Int.ofNat.inj (show Int.ofNat (a % b) = Int.ofNat 0 from V.int.inj e), fun e => congrArg V.int (show Int.ofNat (a % b) = Int.ofNat 0 from congrArg Int.ofNat e)⟩
structure Whl (p m t few root n : Nat) (marks : List Nat) : Prop where
  few1 : 1 ≤ few
  fewm : m % few = 0
  r0 : 0 < root
  rq : root < p ^ m
  ord : Ord p m t root n
  nq : n ≤ p ^ m - 1
  asc : marks.Pairwise (· < ·)
  lt : ∀ x ∈ marks, x < n
  closed : ∀ x ∈ marks, x * p ^ few % n ∈ marks
structure WhAt (H : Hp) (wh fa mk : Addr) (few root : Nat) (marks : List Nat) : Prop where
  w : H wh = some (.tup [.ref fa, Vn few, Vn root, .ref mk])
  k : H mk = some (.tup (marks.map Vn))
theorem WhAt.same {H H' : Hp} {wh fa mk : Addr} {few root : Nat} {marks : List Nat} (h : WhAt H wh fa mk few root marks) (s : Same H H') : WhAt H' wh fa mk few root marks := ⟨s _ _ h.w, s _ _ h.k⟩
theorem WhAt.x {pu g : Addr} {H H' : Hp} {wh fa mk : Addr} {few root : Nat} {marks : List Nat} (h : WhAt H wh fa mk few root marks) (n1 : wh ≠ pu ∧ wh ≠ g) (n2 : mk ≠ pu ∧ mk ≠ g) (s : yaq pu g H H') : WhAt H' wh fa mk few root marks := ⟨s _ _ n1.1 n1.2 h.w, s _ _ n2.1 n2.2 h.k⟩
noncomputable def ya8 (p m t : Nat) (H : Hp) (a : Addr) : Prop := ∃ n x : Nat, H a = some (.tup [Vn n, Vn x]) ∧ Ord p m t x n ∧ n ≤ p ^ m - 1 ∧ 0 < x ∧ x < p ^ m
theorem ya8.same {p m t : Nat} {H H' : Hp} {a : Addr} (h : ya8 p m t H a) (s : Same H H') : ya8 p m t H' a := by obtain ⟨n, x, h1, r⟩ := h; exact ⟨n, x, s _ _ h1, r⟩
theorem Pu.tup_ne {H : Hp} {pu g a : Addr} {xs : List V} (h : Pu H pu g) (e : H a = some (.tup xs)) : a ≠ pu ∧ a ≠ g := by
  obtain ⟨ns, s, t, h1, h2⟩ := h
  exact ⟨fun q => (by rw [q, h1] at e; cases e), fun q => (by rw [q, h2] at e; cases e)⟩
noncomputable def pn (H : Hp) (a : Addr) : Nat := match H a with
  | some (.tup (.int n :: _)) => n.toNat
  | _ => 0
theorem zbT {H : Hp} {a : Addr} {n x : Nat} (h : H a = some (.tup [Vn n, Vn x])) : pn H a = n := by unfold pn; rw [h]; rfl
theorem yce {α : Type} {xs : List α} {k : Nat} {a : α} (h : xs[k]? = some a) : xs.take (k + 1) = xs.take k ++ [a] := by
  obtain ⟨hk, e⟩ := List.getElem?_eq_some_iff.mp h
  rw [List.take_succ_eq_append_getElem hk, e]
theorem ydp {ts : List Addr} {k : Nat} {z : V} (h : (ts.map V.ref)[k]? = some z) : ∃ a, ts[k]? = some a ∧ z = .ref a := by
  rw [List.getElem?_map] at h
  rcases e : ts[k]? with _ | a
  · rw [e] at h; cases h
  · rw [e] at h; exact ⟨a, rfl, (Option.some.inj h).symm⟩
noncomputable def ydc : Sp := fun vs H Q _ => ∃ (pu g : Addr) (most : Nat), vs = [.ref pu, Vn most] ∧ Pu H pu g ∧ 1 ≤ most ∧
  ∀ (r tb fa pa la wh mk : Addr) (p m t b few root n : Nat) (marks : List Nat) H', H' r = some (.tup [.ref tb, .ref wh]) → Tab H' tb fa pa la p m t b → yeR pu g tb fa pa la → WhAt H' wh fa mk few root marks → (wh ≠ pu ∧ wh ≠ g) → (mk ≠ pu ∧ mk ≠ g) → (r ≠ pu ∧ r ≠ g) → Whl p m t few root n marks → n ≤ most → Pu H' pu g → yaq pu g H H' → Q (.ref r) H'
theorem yah : yaj ["_law_purse_here", "_law_most", "_law_way", "_law_far", "_law_table_here", "_law_fews", "_law_few", "_law_q", "_law_rounds", "_law_greatest", "_law_n", "_law_root", "_law_marks_here", "_law_first", "_law_many", "_law_k"] ["_law_purse_here", "_law_most"] (zae yav) := ⟨rfl, rfl, rfl, by decide +kernel, rfl, by decide +kernel, by decide +kernel⟩
theorem zeM (B : Bl mg) (h__law_pick : Has P w K mg base 1 "_law_pick" ["_law_purse_here", "_law_many"] ycK) (h__law_field : Has P w K mg base 4 "_law_field" ["_law_purse_here"] ydM) (h__law_table : Has P w K mg base 3 "_law_table" ["_law_field_here"] ydG) (h__law_raised : Has P w K mg base 1 "_law_raised" ["_law_one", "_law_many"] yal)
    (h__law_round : Has P w K mg base 2 "_law_round" ["_law_table_here", "_law_one"] ycb) (h__law_ring : Has P w K mg base 1 "_law_ring" ["_law_i", "_law_n", "_law_q"] zb4) (F : Fun K "_law_wheel" "_law_wheel" yav f fd) : FnOk P w K mg base CX0 5 f fd ["_law_purse_here", "_law_most"] ydc := by
  refine F.ok yah (fun vs H Q E h => ?_) (fun cdv A outer s H vs Q E hr h => ?_)
  · obtain ⟨pu, g, most, rfl, _⟩ := h; rfl
  obtain ⟨pu, g, most, rfl, hP, hmost, q⟩ := h
  refine ⟨_, (@yaa _ _ _ _ _ (@zct _ _ 2 3 _ _ _ _ _ _ _ _ _ _ _ rfl yah.nd rfl rfl (by decide) rfl rfl (@zaa _ _ _ _ _ (@yad _ _ _ _ _ _ _ _ _ _ _ h__law_pick hr (by decide) rfl (@zaa _ _ _ _ _ (pv 0) (@zaa _ _ _ _ _ yab zab (by rfl)) (by rfl)) (by decide) (by rfl) (by rfl)) (@zaa _ _ _ _ _ (@yad _ _ _ _ _ _ _ _ _ _ _ h__law_pick hr (by decide) rfl (@zaa _ _ _ _ _ (pv 0) (@zaa _ _ _ _ _ yab zab (by rfl)) (by rfl)) (by decide) (by rfl) (by rfl)) zab (by rfl)) (by rfl)) rfl (by rfl)) (@yaa _ _ _ _ _ (@yag _ _ 4 _ _ _ _ yah.nd rfl (Or.inr rfl) (@yad _ _ _ _ _ _ _ _ _ _ _ h__law_table hr (by decide) rfl (@zaa _ _ _ _ _ (@yad _ _ _ _ _ _ _ _ _ _ _ h__law_field hr (by decide) rfl (@zaa _ _ _ _ _ (pv 0) zab (by rfl)) (by decide) (by rfl) (by rfl)) zab (by rfl)) (by decide) (by rfl) (by rfl)) (by rfl) (by first | exact .inl rfl | exact .inr rfl | assumption)) (@yaa _ _ _ _ _ (@ybg _ 5 _ _ _ _ _ _ _ _ _ ["_law_few"] ["_law_table_here"] [4] _ _ _ _ yah.nd rfl (Or.inl rfl) (id (α := CSc ["_law_purse_here", "_law_most", "_law_way", "_law_far", "_law_table_here", "_law_fews", "_law_few", "_law_q", "_law_rounds", "_law_greatest", "_law_n", "_law_root", "_law_marks_here", "_law_first", "_law_many", "_law_k"] (zae yav) ["_law_few"] ["_law_table_here"] [4] _) ⟨by rfl, by decide +kernel, by decide +kernel, by decide +kernel, by decide +kernel, by rfl, by decide +kernel⟩) rfl (@yaW _ _ _ _ _ _ _ rfl (B "range" (by decide)) (@zaa _ _ _ _ _ yab (@zaa _ _ _ _ _ (@zah _ _ _ _ _ _ _ _ yay (@zaS _ _ _ _ _ _ (yb0 hr) (pv 4) zaT (fun _ _ => rfl)) yab) zab (by rfl)) (by rfl)) (by rfl) (by rfl)) (fun cl C fp s H => (@yae _ _ 0 _ (by show List.Nodup (["_law_few", "_law_table_here"] : List Str); decide +kernel) rfl (Or.inl rfl) (by first | exact .inl rfl | exact .inr rfl | assumption))) (fun _ _ _ _ _ => (@ybz _ _ _ (@zai _ _ _ _ _ _ _ _ zbx (@zah _ _ _ _ _ _ _ _ zat (@zaS _ _ _ _ _ _ (yb0 hr) (pv 1) zaT (fun _ _ => rfl)) (pv 0)) yab (zam _)))) (fun _ _ _ _ _ => (pv 0)) (by rfl) (by intro _; rfl) (by first | exact .inl rfl | exact .inr rfl | assumption)) (@yaa _ _ _ _ _ (@yag _ _ 6 _ _ _ _ yah.nd rfl (Or.inl rfl) (@zao _ _ _ _ _ _ _ zaq (pv 5) (@yad _ _ _ _ _ _ _ _ _ _ _ h__law_pick hr (by decide) rfl (@zaa _ _ _ _ _ (pv 0) (@zaa _ _ _ _ _ (@yai _ _ _ _ _ _ _ _ _ zar rfl (B "len" (by decide)) PySem.boot_len (@zaa _ _ _ _ _ (pv 5) zab (by rfl)) (by decide) (by decide) (by rfl) (by rfl)) zab (by rfl)) (by rfl)) (by decide) (by rfl) (by rfl)) (fun _ _ => rfl)) (by rfl) (by first | exact .inl rfl | exact .inr rfl | assumption)) (@yaa _ _ _ _ _ (@yag _ _ 7 _ _ _ _ yah.nd rfl (Or.inl rfl) (@yad _ _ _ _ _ _ _ _ _ _ _ h__law_raised hr (by decide) rfl (@zaa _ _ _ _ _ (@zaS _ _ _ _ _ _ (yb0 hr) (pv 4) zaT (fun _ _ => rfl)) (@zaa _ _ _ _ _ (pv 6) zab (by rfl)) (by rfl)) (by decide) (by rfl) (by rfl)) (by rfl) (by first | exact .inl rfl | exact .inr rfl | assumption)) (@yaa _ _ _ _ _ (@ybg _ 8 _ _ _ _ _ _ _ _ _ ["_law_one"] ["_law_table_here"] [4] _ _ _ _ yah.nd rfl (Or.inl rfl) (id (α := CSc ["_law_purse_here", "_law_most", "_law_way", "_law_far", "_law_table_here", "_law_fews", "_law_few", "_law_q", "_law_rounds", "_law_greatest", "_law_n", "_law_root", "_law_marks_here", "_law_first", "_law_many", "_law_k"] (zae yav) ["_law_one"] ["_law_table_here"] [4] _) ⟨by rfl, by decide +kernel, by decide +kernel, by decide +kernel, by decide +kernel, by rfl, by decide +kernel⟩) rfl (@yaW _ _ _ _ _ _ _ rfl (B "range" (by decide)) (@zaa _ _ _ _ _ yab (@zaa _ _ _ _ _ (@zaS _ _ _ _ _ _ (yb0 hr) (pv 4) zaT (fun _ _ => rfl)) zab (by rfl)) (by rfl)) (by rfl) (by rfl)) (fun cl C fp s H => (@yae _ _ 0 _ (by show List.Nodup (["_law_one", "_law_table_here"] : List Str); decide +kernel) rfl (Or.inl rfl) (by first | exact .inl rfl | exact .inr rfl | assumption))) (fun _ _ _ _ _ => zaE) (fun _ _ _ _ _ => (@ybb _ _ _ _ _ (@zaa _ _ _ _ _ (@yad _ _ _ _ _ _ _ _ _ _ _ h__law_round hr (by decide) rfl (@zaa _ _ _ _ _ (pv 1) (@zaa _ _ _ _ _ (pv 0) zab (by rfl)) (by rfl)) (by decide) (by rfl) (by rfl)) (@zaa _ _ _ _ _ (pv 0) zab (by rfl)) (by rfl)))) (by rfl) (by intro _; rfl) (by first | exact .inl rfl | exact .inr rfl | assumption)) (@yaa _ _ _ _ _ (@ybg _ 8 _ _ _ _ _ _ _ _ _ ["_law_pair"] ["_law_most"] [1] _ _ _ _ yah.nd rfl (Or.inl rfl) (id (α := CSc ["_law_purse_here", "_law_most", "_law_way", "_law_far", "_law_table_here", "_law_fews", "_law_few", "_law_q", "_law_rounds", "_law_greatest", "_law_n", "_law_root", "_law_marks_here", "_law_first", "_law_many", "_law_k"] (zae yav) ["_law_pair"] ["_law_most"] [1] _) ⟨by rfl, by decide +kernel, by decide +kernel, by decide +kernel, by decide +kernel, by rfl, by decide +kernel⟩) rfl (@zbv _ _ _ _ (pv 8)) (fun cl C fp s H => (@yae _ _ 0 _ (by show List.Nodup (["_law_pair", "_law_most"] : List Str); decide +kernel) rfl (Or.inl rfl) (by first | exact .inl rfl | exact .inr rfl | assumption))) (fun _ _ _ _ _ => (@ybz _ _ _ (@zai _ _ _ _ _ _ _ _ yd1 (@zao _ _ _ _ _ _ _ (zbH (K := K) rfl) (pv 0) yab (fun _ _ => rfl)) (pv 1) (zam _)))) (fun _ _ _ _ _ => (pv 0)) (by rfl) (by intro _; rfl) (by first | exact .inl rfl | exact .inr rfl | assumption)) (@yaa _ _ _ _ _ (@yag _ _ 9 _ _ _ _ yah.nd rfl (Or.inr rfl) (@yai _ _ _ _ _ _ _ _ _ (zeN rfl) rfl (B "max" (by decide)) zcd (@zaa _ _ _ _ _ (@zaV _ _ _ _ _ _ _ ["_law_pair"] [] [] _ _ _ _ (id (α := CSc ["_law_purse_here", "_law_most", "_law_way", "_law_far", "_law_table_here", "_law_fews", "_law_few", "_law_q", "_law_rounds", "_law_greatest", "_law_n", "_law_root", "_law_marks_here", "_law_first", "_law_many", "_law_k"] (zae yav) ["_law_pair"] [] [] _) ⟨by rfl, by decide +kernel, by decide +kernel, by decide +kernel, by decide +kernel, by rfl, by decide +kernel⟩) rfl (@zbv _ _ _ _ (pv 8)) (fun cl C fp s H => (@yae _ _ 0 _ (by show List.Nodup (["_law_pair"] : List Str); decide +kernel) rfl (Or.inl rfl) (by first | exact .inl rfl | exact .inr rfl | assumption))) (fun _ _ _ _ _ => zaE) (fun _ _ _ _ _ => (@zao _ _ _ _ _ _ _ (zbH (K := K) rfl) (pv 0) yab (fun _ _ => rfl))) (by intro _; rfl)) zab (by rfl)) (by decide) (by decide) (by rfl) (by rfl)) (by rfl) (by first | exact .inl rfl | exact .inr rfl | assumption)) (@yaa _ _ _ _ _ (@zaC _ _ _ _ _ _ _ _ (@zai _ _ _ _ _ _ _ _ zb1 (pv 3) yab (zam _)) (@zad _ _ _ (@ybg _ 8 _ _ _ _ _ _ _ _ _ ["_law_pair"] ["_law_greatest"] [9] _ _ _ _ yah.nd rfl (Or.inl rfl) (id (α := CSc ["_law_purse_here", "_law_most", "_law_way", "_law_far", "_law_table_here", "_law_fews", "_law_few", "_law_q", "_law_rounds", "_law_greatest", "_law_n", "_law_root", "_law_marks_here", "_law_first", "_law_many", "_law_k"] (zae yav) ["_law_pair"] ["_law_greatest"] [9] _) ⟨by rfl, by decide +kernel, by decide +kernel, by decide +kernel, by decide +kernel, by rfl, by decide +kernel⟩) rfl (@zbv _ _ _ _ (pv 8)) (fun cl C fp s H => (@yae _ _ 0 _ (by show List.Nodup (["_law_pair", "_law_greatest"] : List Str); decide +kernel) rfl (Or.inl rfl) (by first | exact .inl rfl | exact .inr rfl | assumption))) (fun _ _ _ _ _ => (@ybz _ _ _ (@zai _ _ _ _ _ _ _ _ zbx (@zao _ _ _ _ _ _ _ (zbH (K := K) rfl) (pv 0) yab (fun _ _ => rfl)) (pv 1) (zam _)))) (fun _ _ _ _ _ => (pv 0)) (by rfl) (by intro _; rfl) (by first | exact .inl rfl | exact .inr rfl | assumption))) yam) (@yaa _ _ _ _ _ (@yaS _ _ _ _ _ _ (@zao _ _ _ _ _ _ _ zaq (pv 8) (@yad _ _ _ _ _ _ _ _ _ _ _ h__law_pick hr (by decide) rfl (@zaa _ _ _ _ _ (pv 0) (@zaa _ _ _ _ _ (@yai _ _ _ _ _ _ _ _ _ zar rfl (B "len" (by decide)) PySem.boot_len (@zaa _ _ _ _ _ (pv 8) zab (by rfl)) (by decide) (by decide) (by rfl) (by rfl)) zab (by rfl)) (by rfl)) (by decide) (by rfl) (by rfl)) (fun _ _ => rfl)) (@zaQ _ _ _ _ _ _ rfl (@yaf _ _ _ _ _ (@yae _ _ 10 _ yah.nd rfl (Or.inl rfl) (by first | exact .inl rfl | exact .inr rfl | assumption)) (@yaf _ _ _ _ _ (@yae _ _ 11 _ yah.nd rfl (Or.inl rfl) (by first | exact .inl rfl | exact .inr rfl | assumption)) zax (by rfl)) (by rfl)) (by rfl) (by rfl)) (by rfl) (by rfl) (by rfl)) (@yaa _ _ _ _ _ (@yag _ _ 12 _ _ _ _ yah.nd rfl (Or.inl rfl) (@zaR _ _ _ _ zab) (by rfl) (by first | exact .inl rfl | exact .inr rfl | assumption)) (@yaa _ _ _ _ _ (@zaC _ _ _ _ _ _ _ _ (@zai _ _ _ _ _ _ _ _ zbx (pv 2) yab (zam _)) (@zad _ _ _ (@yag _ _ 12 _ _ _ _ yah.nd rfl (Or.inl rfl) (@zaY _ _ _ _ _ _ _ _ _ (zcF rfl) rfl (B "list" (by decide)) ycY (@zaa _ _ _ _ _ (@yeI _ _ _ _ _ rfl (B "range" (by decide)) (@zaa _ _ _ _ _ (pv 10) zab (by rfl)) (by rfl)) zab (by rfl)) (by decide) (by decide) (by rfl) (by rfl)) (by rfl) (by first | exact .inl rfl | exact .inr rfl | assumption))) (@zad _ _ _ (@zaC _ _ _ _ _ _ _ _ (@zai _ _ _ _ _ _ _ _ zbx (pv 2) yab (zam _)) (@zad _ _ _ (@yag _ _ 12 _ _ _ _ yah.nd rfl (Or.inl rfl) (@yad _ _ _ _ _ _ _ _ _ _ _ h__law_ring hr (by decide) rfl (@zaa _ _ _ _ _ (@yad _ _ _ _ _ _ _ _ _ _ _ h__law_pick hr (by decide) rfl (@zaa _ _ _ _ _ (pv 0) (@zaa _ _ _ _ _ (pv 10) zab (by rfl)) (by rfl)) (by decide) (by rfl) (by rfl)) (@zaa _ _ _ _ _ (pv 10) (@zaa _ _ _ _ _ (pv 7) zab (by rfl)) (by rfl)) (by rfl)) (by decide) (by rfl) (by rfl)) (by rfl) (by first | exact .inl rfl | exact .inr rfl | assumption))) (@zad _ _ _ (@zaC _ _ _ _ _ _ _ _ (@zai _ _ _ _ _ _ _ _ zb1 (pv 2) yab (zam _)) (@yaa _ _ _ _ _ (@zct _ _ 13 14 _ _ _ _ _ _ _ _ _ _ _ rfl yah.nd rfl rfl (by decide) rfl rfl (@zaa _ _ _ _ _ (@yad _ _ _ _ _ _ _ _ _ _ _ h__law_pick hr (by decide) rfl (@zaa _ _ _ _ _ (pv 0) (@zaa _ _ _ _ _ (pv 10) zab (by rfl)) (by rfl)) (by decide) (by rfl) (by rfl)) (@zaa _ _ _ _ _ (@yad _ _ _ _ _ _ _ _ _ _ _ h__law_pick hr (by decide) rfl (@zaa _ _ _ _ _ (pv 0) (@zaa _ _ _ _ _ (pv 10) zab (by rfl)) (by rfl)) (by decide) (by rfl) (by rfl)) zab (by rfl)) (by rfl)) rfl (by rfl)) (@zad _ _ _ (@zaG _ _ _ _ _ _ _ _ PassesOwn.never rfl (@zaD _ _ _ _ _ _ rfl (B "range" (by decide)) (@zaa _ _ _ _ _ (pv 14) zab (by rfl)) (by rfl)) (@yae _ _ 15 _ yah.nd rfl (Or.inl rfl) (by first | exact .inl rfl | exact .inr rfl | assumption)) (@zad _ _ _ (@zaC _ _ _ _ _ _ _ _ (@PW.pt _ _ _ (@zbE _ _ _ _ _ _ _ (@zai _ _ _ _ _ _ _ _ zb1 (pv 2) yab (zam _)) (@za1 _ _ _ _ (@zai _ _ _ _ _ _ _ _ zbx (@yad _ _ _ _ _ _ _ _ _ _ _ h__law_pick hr (by decide) rfl (@zaa _ _ _ _ _ (pv 0) (@zaa _ _ _ _ _ yab zab (by rfl)) (by rfl)) (by decide) (by rfl) (by rfl)) yab (zam _))))) (@zad _ _ _ (@yag _ _ 12 _ _ _ _ yah.nd rfl (Or.inl rfl) (@zah _ _ _ _ _ _ _ _ yfS (pv 12) (@yad _ _ _ _ _ _ _ _ _ _ _ h__law_ring hr (by decide) rfl (@zaa _ _ _ _ _ (@zah _ _ _ _ _ _ _ _ yay (pv 13) (pv 15)) (@zaa _ _ _ _ _ (pv 10) (@zaa _ _ _ _ _ (pv 7) zab (by rfl)) (by rfl)) (by rfl)) (by decide) (by rfl) (by rfl))) (by rfl) (by first | exact .inl rfl | exact .inr rfl | assumption))) yam)) (by intro _; rfl)))) yam))))) (@zad _ _ _ (@zaj _ _ _ _ (@ybb _ _ _ _ _ (@zaa _ _ _ _ _ (pv 4) (@zaa _ _ _ _ _ (@ybb _ _ _ _ _ (@zaa _ _ _ _ _ (@zaS _ _ _ _ _ _ (yb0 hr) (pv 4) zaT (fun _ _ => rfl)) (@zaa _ _ _ _ _ (pv 6) (@zaa _ _ _ _ _ (pv 11) (@zaa _ _ _ _ _ (@zaY _ _ _ _ _ _ _ _ _ yaL rfl (B "tuple" (by decide)) yao (@zaa _ _ _ _ _ (@zd5 _ _ _ _ _ _ _ rfl rfl (B "sorted" (by decide)) rfl (B "set" (by decide)) (pv 12) (by rfl) (by rfl)) zab (by rfl)) (by decide) (by decide) (by rfl) (by rfl)) zab (by rfl)) (by rfl)) (by rfl)) (by rfl))) zab (by rfl)) (by rfl))))))))))))))))), ?_⟩
  refine ⟨_, rfl, pu, g, 6, rfl, hP, by omega, by omega, fun way H1 hway hP1 sx1 => ?_⟩
  refine ⟨_, rfl, pu, g, 3, rfl, hP1, by omega, by omega, fun far H2 hfar hP2 sx2 => ?_⟩
  refine ⟨_, _, rfl, ?_⟩
  refine ⟨_, rfl, pu, g, rfl, hP2, fun fa p m t H3 nf1 nf2 nf ef G hP3 sx3 => ?_⟩
  refine ⟨fa, p, m, t, rfl, ef, G, fun tb pa la b H4 ntb npa nla T4 s4 => ?_⟩
  have hP4 := hP3.same s4
  have ap : yeR pu g tb fa pa la := ⟨(hP3.lt ntb).1, (hP3.lt ntb).2, nf1, nf2, (hP3.lt npa).1, (hP3.lt npa).2, (hP3.lt nla).1, (hP3.lt nla).2⟩
  have sx4 := (sx1.trans (sx2.trans sx3)).trans (Same.x s4)
  have hp := G.hp
  have hm := G.hm
  have hQ := G.hq
  have hQ2 := ybE hp hm
  have hm6 := m_le hp hQ
  refine ⟨_, rfl, tb, _, rfl, T4.get zfV, _, _, rfl, rfl, ?_⟩
  refine ⟨1, ((m + 1 : Nat) : Int), rfl, by omega, ?_⟩
  refine yar zbe (fun k acc H' => H' = H4 ∧ ∃ fs : List Nat, acc = fs.map Vn ∧ (∀ f ∈ fs, 1 ≤ f ∧ m % f = 0) ∧ fs.length ≤ k ∧ (0 < k → 0 < fs.length)) ⟨rfl, ([] : List Nat), rfl, fun f hf => absurd hf (by simp), Nat.le_refl _, fun h => absurd h (Nat.lt_irrefl _)⟩ (fun _ _ _ _ _ => trivial) ?_ ?_ ?_
  · rintro k acc H' hk ⟨_, fs, rfl, _, hl, _⟩
    rw [List.length_map]; exact zak (by omega)
  · rintro k acc x H' H'' hk ⟨rfl, fs, rfl, hfs, hl, h0⟩ ⟨rfl, rfl⟩
    refine ⟨_, rfl, tb, _, rfl, T4.get zfV, _, rfl, _, _, rfl, rfl, by show (0 : Int) < 1 + (k : Int); omega, rfl, _, rfl, ?_⟩
    have ed : decide (V.int ((m : Int) % (1 + (k : Int))) = V.int 0) = decide (m % (1 + k) = 0) := by rw [show (1 + (k : Int)) = ((1 + k : Nat) : Int) by omega]; exact ydJ _ _
    refine ite2 (fun c => ?_) (fun c => ?_)
    · have c1 : m % (1 + k) = 0 := by rw [ed] at c; exact of_decide_eq_true c
      refine ⟨_, rfl, rfl, fs ++ [1 + k], ?_, ?_, by simp; omega, fun _ => by simp⟩
      · rw [List.map_append, show V.int (1 + (k : Int)) = Vn (1 + k) from ycE (by omega)]; rfl
      · intro f hf
        rcases List.mem_append.mp hf with h | h
        · exact hfs f h
        · cases List.mem_singleton.mp h; exact ⟨by omega, c1⟩
    · refine ⟨rfl, fs, rfl, hfs, by omega, fun _ => ?_⟩
      by_cases c0 : k = 0
      · subst c0
        refine absurd ?_ c
        rw [ed, decide_eq_true (by show m % 1 = 0; exact Nat.mod_one m)]
      · exact h0 (by omega)
  rintro acc H5 ⟨rfl, fs, rfl, hfs, hfl, hf0⟩ fl hfl'
  have hfl2 : fs.length ≤ m := by omega
  have hf1 : 0 < fs.length := hf0 (by omega)
  have s5 := yac hfl' (.lst (fs.map Vn))
  have T5 := T4.same s5
  have hP5 := hP4.same s5
  have nfl := hP4.lt hfl'
  have e5 : upd H5 fl (.lst (fs.map Vn)) fl = some (.lst (fs.map Vn)) := zac
  have sx5 := sx4.trans (Same.x s5)
  dsimp only [yaC]
  generalize upd H5 fl (.lst (fs.map Vn)) = H5' at s5 T5 hP5 e5 sx5 ⊢
  refine ⟨_, rfl, _, rfl, _, rfl, fl, _, rfl, .inl (SqL.of e5), ?_⟩
  refine ⟨pu, g, fs.length, by rw [List.length_map]; rfl, hP5, hf1, by omega, fun fi H6 hfi hP6 sx6 => ?_⟩
  have hfew := hfs (fs.getD fi 0) (by
    have := List.getElem_mem hfi
    rwa [show fs.getD fi 0 = fs[fi] by simp [List.getD, hfi]])
  have e6 := sx6 _ _ nfl.1 nfl.2 e5
  have sx6' := sx5.trans sx6
  refine ⟨fl, _, _, Vn (fs.getD fi 0), rfl, rfl, SqL.of e6, ybk (yaX hfi), ?_⟩
  generalize fs.getD fi 0 = few at hfew ⊢
  have hfewm : few ≤ m := Nat.le_of_dvd (by omega) (Nat.dvd_of_mod_eq_zero hfew.2)
  have T6 := T5.x ap sx6
  dsimp only [yaC]
  refine ⟨_, rfl, tb, _, rfl, T6.get yfJ, _, rfl, p, few, rfl, p_le hp hm hQ, by omega, ?_⟩
  have hqq : p ^ few ≤ 64 := Nat.le_trans (Nat.pow_le_pow_right (by omega) hfewm) hQ
  dsimp only [yaC]
  refine ⟨_, rfl, tb, _, rfl, T6.get zdR, ?_⟩
  refine ⟨1, ((p ^ m : Nat) : Int), rfl, by omega, ?_⟩
  refine yar zbe (fun k acc H' => Same H6 H' ∧ ∃ ts : List Addr, acc = ts.map V.ref ∧ ts.length = k ∧ (∀ a ∈ ts, ya8 p m t H' a) ∧ (0 < k → ∃ a ∈ ts, pn H' a = 1)) ⟨Same.refl _, ([] : List Addr), rfl, rfl, fun a ha => absurd ha (by simp), fun h => absurd h (Nat.lt_irrefl _)⟩ (fun _ _ _ _ _ => trivial) ?_ ?_ ?_
  · rintro k acc H' hk ⟨_, ts, rfl, hl, _⟩
    rw [List.length_map, hl]; exact zak (by omega)
  · rintro k acc x H' H'' hk ⟨s', ts, rfl, hl, hts, h1⟩ ⟨rfl, rfl⟩
    have hk2 : 1 + k < p ^ m := by omega
    refine ⟨_, rfl, _, rfl, tb, fa, pa, la, p, m, t, b, 1 + k, ?_, T6.same s', by omega, hk2, fun n o hn => ?_⟩
    · rw [show (1 + (k : Int)) = ((1 + k : Nat) : Int) by omega]; rfl
    refine ⟨_, rfl, szl 2, fun a ha => ?_⟩
    have sn := yac ha (.tup [Vn n, .int (1 + (k : Int))])
    have en : upd H'' a (.tup [Vn n, .int (1 + (k : Int))]) a = some (.tup [Vn n, Vn (1 + k)]) := by rw [zac]; congr 1
    refine ⟨s'.trans sn, ts ++ [a], by rw [List.map_append]; rfl, by simp [hl], ?_, ?_⟩
    · intro a' ha'
      rcases List.mem_append.mp ha' with h | h
      · exact (hts a' h).same sn
      · cases List.mem_singleton.mp h
        exact ⟨n, 1 + k, en, o, hn, by omega, hk2⟩
    · intro _
      by_cases c0 : k = 0
      · subst c0
        refine ⟨a, by simp, ?_⟩
        rw [zbT en]
        have h2 := o.pos
        have h3 := o.le (k := 1) (by omega) (by rw [ycX hp hm (by omega)])
        omega
      · obtain ⟨a', ha', e'⟩ := h1 (by omega)
        obtain ⟨n', x', hx', _⟩ := hts a' ha'
        exact ⟨a', List.mem_append_left _ ha', by rw [zbT (sn _ _ hx'), ← zbT hx']; exact e'⟩
  rintro acc H7 ⟨s7, ts, rfl, htl, hts, hone⟩ rl hrl
  have htl2 : ts.length = p ^ m - 1 := by
    rw [htl, show ((p ^ m : Nat) : Int) - 1 = ((p ^ m - 1 : Nat) : Int) by omega]; rfl
  obtain ⟨a1, ha1, ea1⟩ := hone (by omega)
  have s7' := s7.trans (yac hrl (.lst (ts.map V.ref)))
  have T7 := T6.same s7'
  have hP7 := hP6.same s7'
  have nrl := (hP6.same s7).lt hrl
  have e7 : upd H7 rl (.lst (ts.map V.ref)) rl = some (.lst (ts.map V.ref)) := zac
  have hts7 : ∀ a ∈ ts, ya8 p m t (upd H7 rl (.lst (ts.map V.ref))) a := fun a ha => (hts a ha).same (yac hrl _)
  have ea7 : pn (upd H7 rl (.lst (ts.map V.ref))) a1 = 1 := by
    obtain ⟨n', x', hx', _⟩ := hts a1 ha1
    rw [zbT (yac hrl _ _ _ hx'), ← zbT hx']; exact ea1
  have sx7 := sx6'.trans (Same.x s7')
  dsimp only [yaC]
  generalize upd H7 rl (.lst (ts.map V.ref)) = H8 at s7' T7 hP7 e7 hts7 ea7 sx7 ⊢
  refine ⟨_, rfl, rl, rfl, ⟨_, SqL.of e7⟩, ?_⟩
  refine yar (zbd (xs := ts.map V.ref)) (fun k acc H' => H' = H8 ∧ acc = ((ts.take k).filter fun a => decide (pn H8 a ≤ most)).map V.ref) ⟨rfl, rfl⟩ (fun i acc H' _ h => h.1 ▸ SqL.of e7) ?_ ?_ ?_
  · rintro k acc H' hk ⟨_, rfl⟩
    have := List.length_filter_le (fun a => decide (pn H8 a ≤ most)) (ts.take k)
    rw [List.length_take] at this
    rw [List.length_map]; exact zak (by omega)
  · rintro k acc z H' H'' hk ⟨rfl, rfl⟩ ⟨rfl, ez⟩
    obtain ⟨a, ea, rfl⟩ := ydp ez
    obtain ⟨n, x, hx, _⟩ := hts7 a (List.mem_of_getElem? ea)
    refine ⟨_, rfl, a, _, _, Vn n, rfl, rfl, SqT.of hx, rfl, _, rfl, _, _, rfl, rfl, _, rfl, ?_⟩
    rw [yce ea, List.filter_append]
    refine ite2 (fun c => ?_) (fun c => ?_)
    · have c1 : n ≤ most := by have := of_decide_eq_true c; omega
      refine ⟨_, rfl, rfl, ?_⟩
      rw [List.map_append]
      simp [zbT hx, c1]
    · have c1 : ¬ n ≤ most := fun h => c (decide_eq_true (by omega))
      refine ⟨rfl, ?_⟩
      simp [zbT hx, c1]
  rw [List.length_map]
  rintro acc H9 ⟨rfl, rfl⟩ r2 hr2
  rw [List.take_length]
  obtain ⟨us, hus⟩ : ∃ us, us = ts.filter fun a => decide (pn H9 a ≤ most) := ⟨_, rfl⟩
  rw [← hus]
  have hu1 : ∀ a ∈ us, ya8 p m t H9 a ∧ pn H9 a ≤ most := fun a ha => by
    rw [hus] at ha
    have := List.mem_filter.mp ha
    exact ⟨hts7 a this.1, of_decide_eq_true this.2⟩
  have hu0 : a1 ∈ us := by rw [hus]; exact List.mem_filter.mpr ⟨ha1, decide_eq_true (by rw [ea7]; exact hmost)⟩
  have hul : us.length ≤ 63 := by
    have := List.length_filter_le (fun a => decide (pn H9 a ≤ most)) ts
    rw [← hus] at this
    omega
  clear hus
  have pk : ∀ {H H' : Hp}, Same H H' → ∀ a, ya8 p m t H a → pn H' a = pn H a := fun s a ⟨n, x, h, _⟩ => by rw [zbT (s _ _ h), zbT h]
  have s9 := yac hr2 (.lst (us.map V.ref))
  have T9 := T7.same s9
  have hP9 := hP7.same s9
  have n2 := hP7.lt hr2
  have e9 : upd H9 r2 (.lst (us.map V.ref)) r2 = some (.lst (us.map V.ref)) := zac
  have hu9 : ∀ a ∈ us, ya8 p m t (upd H9 r2 (.lst (us.map V.ref))) a ∧ pn (upd H9 r2 (.lst (us.map V.ref))) a ≤ most := fun a ha => ⟨(hu1 a ha).1.same s9, by rw [pk s9 a (hu1 a ha).1]; exact (hu1 a ha).2⟩
  have sx9 := sx7.trans (Same.x s9)
  dsimp only [yaC]
  generalize upd H9 r2 (.lst (us.map V.ref)) = HA at s9 T9 hP9 e9 hu9 sx9 ⊢
  refine ⟨_, rfl, r2, rfl, ⟨_, SqL.of e9⟩, ?_⟩
  refine yar (zbd (xs := us.map V.ref)) (fun k acc H' => H' = HA ∧ acc = ((us.take k).map (pn HA)).map Vn) ⟨rfl, rfl⟩ (fun i acc H' _ h => h.1 ▸ SqL.of e9) ?_ ?_ ?_
  · rintro k acc H' hk ⟨_, rfl⟩
    rw [List.length_map, List.length_map, List.length_take]; exact zak (by omega)
  · rintro k acc z H' H'' hk ⟨rfl, rfl⟩ ⟨rfl, ez⟩
    obtain ⟨a, ea, rfl⟩ := ydp ez
    obtain ⟨⟨n, x, hx, _⟩, _⟩ := hu9 a (List.mem_of_getElem? ea)
    refine ⟨_, rfl, a, _, _, Vn n, rfl, rfl, SqT.of hx, rfl, rfl, ?_⟩
    rw [yce ea, List.map_append, List.map_append, show [a].map (pn H'') = [n] by rw [List.map_singleton, zbT hx]]; rfl
  rw [List.length_map]
  rintro acc HB ⟨rfl, rfl⟩ gl' hgl'
  rw [List.take_length]
  refine ⟨gl', (us.map (pn HB)).map (fun n : Nat => (n : Int)), rfl, SqL.of (by rw [mapI]; exact zac), by rw [List.length_map, List.length_map]; exact List.length_pos_of_mem hu0, fun M hM1 hM2 => ?_⟩
  obtain ⟨M, hM, rfl⟩ := List.mem_map.mp hM1
  obtain ⟨aM, haM, eM⟩ := List.mem_map.mp hM
  have sB := yac hgl' (.lst ((us.map (pn HB)).map Vn))
  have TB := T9.same sB
  have hPB := hP9.same sB
  have eB := sB _ _ e9
  have huB : ∀ a ∈ us, ya8 p m t (upd HB gl' (.lst ((us.map (pn HB)).map Vn))) a ∧ pn (upd HB gl' (.lst ((us.map (pn HB)).map Vn))) a ≤ most := fun a ha => ⟨(hu9 a ha).1.same sB, by rw [pk sB a (hu9 a ha).1]; exact (hu9 a ha).2⟩
  have eMB : pn (upd HB gl' (.lst ((us.map (pn HB)).map Vn))) aM = M := by rw [pk sB aM (hu9 aM haM).1]; exact eM
  have sxB := sx9.trans (Same.x sB)
  dsimp only [yaC]
  generalize upd HB gl' (.lst ((us.map (pn HB)).map Vn)) = HC at sB TB hPB eB huB eMB sxB ⊢
  change tSeq (tIfS _ _ _) _ _ _ _
  refine ya9 (fun σ H' => ∃ (rr : Addr) (ws : List Addr), Same HC H' ∧ H' rr = some (.lst (ws.map V.ref)) ∧ (rr ≠ pu ∧ rr ≠ g) ∧ 0 < ws.length ∧ ws.length ≤ 63 ∧ (∀ a ∈ ws, ya8 p m t H' a ∧ pn H' a ≤ most) ∧
    σ = [some (.ref pu), some (Vn most), some (Vn way), some (Vn far), some (.ref tb), some (.ref fl), some (Vn few), some (Vn (p ^ few)), some (.ref rr), some (Vn M), none, none, none, none, none, none]) ?_ ?_
  · rintro σ HE ⟨rr, ws, sE, eE, nrr, hw0, hw1, hws, rfl⟩
    have TE := TB.same sE
    have hPE := hPB.same sE
    have sxE := sxB.trans (Same.x sE)
    refine ⟨_, rfl, _, rfl, _, rfl, rr, _, rfl, .inl (SqL.of eE), ?_⟩
    refine ⟨pu, g, ws.length, by rw [List.length_map]; rfl, hPE, hw0, by omega, fun wi HF hwi hPF sxF => ?_⟩
    have hwm : ws[wi] ∈ ws := List.getElem_mem hwi
    obtain ⟨⟨n, root, hpr, ord, hnq, r0, rq⟩, hmo⟩ := hws _ hwm
    rw [zbT hpr] at hmo
    have npr := hPE.tup_ne hpr
    have hprF := sxF _ _ npr.1 npr.2 hpr
    have eF := sxF _ _ nrr.1 nrr.2 eE
    have TF := TE.x ap sxF
    have sxF' := sxE.trans sxF
    have hn0 := ord.pos
    refine ⟨rr, _, _, .ref ws[wi], rfl, rfl, SqL.of eF, ybk (by rw [List.getElem?_map, List.getElem?_eq_getElem hwi]; rfl), ?_⟩
    refine ⟨ws[wi], _, rfl, SqT.of hprF, rfl, _, _, rfl, _, _, rfl, rfl, ?_⟩
    refine ⟨szl 0, fun m0 hm0 => ?_⟩
    have sG := yac hm0 (.lst [])
    have hPG := hPF.same sG
    have nm0 := hPF.lt hm0
    have eG : upd HF m0 (.lst []) m0 = some (.lst (([] : List Nat).map Vn)) := zac
    have TG := TF.same sG
    have sxG := sxF'.trans (Same.x sG)
    dsimp only [yaC]
    generalize upd HF m0 (.lst []) = HG at sG hPG eG TG sxG ⊢
    have hrnd := Ord.round G r0 rq ord hfew.2 hfew.1
    have hme : 1 ≤ m / few := Nat.div_pos hfewm hfew.1
    have hme2 : m / few ≤ 6 := Nat.le_trans (Nat.div_le_self _ _) hm6
    change tSeq (tIfS _ _ _) _ _ _ _
    refine ya9 (fun σ H' => Pu H' pu g ∧ yaq pu g HG H' ∧ ∃ (ml : Addr) (ns : List Nat) (s13 s14 s15 : Option V), H' ml = some (.lst (ns.map Vn)) ∧ (ml ≠ pu ∧ ml ≠ g) ∧ ns.length ≤ 400 ∧ (∀ x ∈ ns, x < n) ∧ (∀ x ∈ ns, x * p ^ few % n ∈ ns) ∧
      σ = [some (.ref pu), some (Vn most), some (Vn way), some (Vn far), some (.ref tb), some (.ref fl), some (Vn few), some (Vn (p ^ few)), some (.ref rr), some (Vn M), some (Vn n), some (Vn root), some (.ref ml), s13, s14, s15]) ?_ ?_
    · rintro σ HI ⟨hPI, sxI, ml, ns, s13, s14, s15, eI, nml, hnl, hnn, hnc, rfl⟩
      have TI := TG.x ap sxI
      refine ⟨_, rfl, _, rfl, tb, _, rfl, TI.get yeN, _, rfl, _, rfl, _, rfl, ml, ns.map (fun n : Nat => (n : Int)), rfl, SqL.of (by rw [mapI]; exact eI), by rw [List.length_map]; omega, ?_, ?_⟩
      · intro ks hks hsub
        have := ydb (τ := (List.range n).map fun i : Nat => (i : Int)) hks fun k hk => by
          obtain ⟨x, hx, rfl⟩ := List.mem_map.mp (hsub k hk)
          exact List.mem_map.mpr ⟨x, List.mem_range.mpr (hnn x hx), rfl⟩
        rw [List.length_map, List.length_range] at this
        omega
      · intro l2 ns' hl2 hasc hmem
        obtain ⟨marks, hmk⟩ : ∃ marks : List Nat, ns' = marks.map fun x : Nat => (x : Int) := by
          refine ⟨ns'.map Int.toNat, ?_⟩
          rw [List.map_map]
          conv => lhs; rw [← List.map_id ns']
          refine List.map_congr_left fun k hk => ?_
          obtain ⟨x, _, rfl⟩ := List.mem_map.mp ((hmem k).mp hk)
          rfl
        subst hmk
        have hmm : ∀ x : Nat, x ∈ marks ↔ x ∈ ns := fun x => by
          have := hmem (x : Int)
          constructor
          · intro h
            obtain ⟨y, hy, e⟩ := List.mem_map.mp (this.mp (List.mem_map_of_mem h))
            rw [← Int.ofNat.inj e]; exact hy
          · intro h
            obtain ⟨y, hy, e⟩ := List.mem_map.mp (this.mpr (List.mem_map_of_mem h))
            rw [← Int.ofNat.inj e]; exact hy
        have hasc2 : marks.Pairwise (· < ·) := by
          rw [List.pairwise_map] at hasc
          exact hasc.imp fun h => by omega
        rw [mapI]
        have s2 := yac hl2 (.lst (marks.map Vn))
        refine ⟨l2, _, rfl, .inl ⟨SqL.of zac, fun mk hmk => ?_⟩⟩
        have s3 := yac hmk (.tup (marks.map Vn))
        refine ⟨szl 4, fun wh hwh => ?_⟩
        have s4' := yac hwh (.tup [.ref fa, Vn few, Vn root, .ref mk])
        refine ⟨szl 2, fun r hr => ?_⟩
        have s5' := yac hr (.tup [.ref tb, .ref wh])
        have hP2' := hPI.same s2
        have hP3' := hP2'.same s3
        have hP4' := hP3'.same s4'
        refine q r tb fa pa la wh mk p m t b few root n marks _ zac ((((TI.same s2).same s3).same s4').same s5') ap ⟨s5' _ _ zac, s5' _ _ (s4' _ _ zac)⟩ (hP3'.lt hwh) (hP2'.lt hmk) (hP4'.lt hr) ⟨hfew.1, hfew.2, r0, rq, ord, hnq, hasc2, fun x hx => hnn x ((hmm x).mp hx), fun x hx => (hmm _).mpr (hnc x ((hmm x).mp hx))⟩ hmo (hP4'.same s5') ?_
        exact (sxG.trans sxI).trans (Same.x (((s2.trans s3).trans s4').trans s5'))
    · intro D' _ _ _ hD'
      refine ⟨_, rfl, rfl, _, rfl, ?_⟩
      refine ite2 (fun c => ?_) (fun c => ?_)
      · refine ⟨_, rfl, (n : Int), rfl, fun rg hrg => ⟨rg, 0, (n : Int), rfl, zac, by omega, by rw [show ((n : Int) - 0).toNat = n by omega]; exact szl _ (by omega), fun l hl => ?_⟩⟩
        have s1' := yac hrg (.rng 0 (n : Int))
        have e1 : L2.intsFrom 0 ((n : Int) - 0).toNat = (List.range n).map Vn := by
          rw [show ((n : Int) - 0).toNat = n by omega]
          unfold L2.intsFrom
          refine List.map_congr_left fun i _ => ?_
          rw [Int.zero_add]
        rw [e1]
        have s2' := yac hl (.lst ((List.range n).map Vn))
        exact hD' _ _ ⟨(hPG.same s1').same s2', Same.x (s1'.trans s2'), l, List.range n, _, _, _, zac, (hPG.same s1').lt hl, by rw [List.length_range]; omega, fun x hx => List.mem_range.mp hx, fun x _ => List.mem_range.mpr (Nat.mod_lt _ (by omega)), rfl⟩
      · refine ⟨_, rfl, rfl, _, rfl, ?_⟩
        refine ite2 (fun c => ?_) (fun c => ?_)
        · refine ⟨_, rfl, _, rfl, pu, g, n, rfl, hPG, by omega, by omega, fun i HJ hi hPJ sxJ => ?_⟩
          refine ⟨_, rfl, _, rfl, i, n, p ^ few, m / few, rfl, by omega, by omega, hqq, hme, hme2, hrnd, fun r ns HK sK nr er h1 h2 h3 h4 _ _ _ => ?_⟩
          exact hD' _ _ ⟨hPJ.same sK, sxJ.trans (Same.x sK), r, ns, _, _, _, er, hPJ.lt nr, by omega, h3, h4, rfl⟩
        · refine ⟨_, rfl, _, _, rfl, rfl, _, rfl, ?_⟩
          refine ite2 (fun c => ?_) (fun c => ?_)
          · refine ⟨_, rfl, _, rfl, pu, g, n, rfl, hPG, by omega, by omega, fun first HJ hfi hPJ sxJ => ?_⟩
            refine ⟨_, rfl, _, rfl, pu, g, n, rfl, hPJ, by omega, by omega, fun many HK hma hPK sxK => ?_⟩
            refine ⟨_, _, rfl, ?_⟩
            refine ⟨_, rfl, many, rfl, by omega, by omega, ?_⟩
            have eK := sxK _ _ nm0.1 nm0.2 (sxJ _ _ nm0.1 nm0.2 eG)
            refine yaw (n := many) (fun k σ H' => Pu H' pu g ∧ yaq pu g HG H' ∧ ∃ (ml : Addr) (ns : List Nat) (s15 : Option V), H' ml = some (.lst (ns.map Vn)) ∧ (ml ≠ pu ∧ ml ≠ g) ∧ ns.length ≤ 6 * k ∧ (∀ x ∈ ns, x < n) ∧ (∀ x ∈ ns, x * p ^ few % n ∈ ns) ∧
              σ = [some (.ref pu), some (Vn most), some (Vn way), some (Vn far), some (.ref tb), some (.ref fl), some (Vn few), some (Vn (p ^ few)), some (.ref rr), some (Vn M), some (Vn n), some (Vn root), some (.ref ml), some (Vn first), some (Vn many), s15])
              ⟨hPK, sxJ.trans sxK, m0, [], _, eK, nm0, by decide, fun x hx => absurd hx (by simp), fun x hx => absurd hx (by simp), rfl⟩ ?_ ?_
            · rintro k σ HL hk ⟨hPL, sxL, ml, ns, s15, eL, nml, hnl, hnn, hnc, rfl⟩
              have body : ∀ HM, Pu HM pu g → yaq pu g HL HM → ∀ Q : V → Hp → Prop, (∀ l (ns' : List Nat) H', Pu H' pu g → yaq pu g HG H' → H' l = some (.lst (ns'.map Vn)) → (l ≠ pu ∧ l ≠ g) → ns'.length ≤ 6 * (k + 1) → (∀ x ∈ ns', x < n) → (∀ x ∈ ns', x * p ^ few % n ∈ ns') → Q (.ref l) H') →
                  tOp rCat (tVar 12) (zfC zb4 [] E0 (zcp (tOp (rI0 fun i j => V.int (i + j)) (tVar 13) (tVar 15)) (zcp (tVar 10) (zcp (tVar 7) tNil)))) [some (.ref pu), some (Vn most), some (Vn way), some (Vn far), some (.ref tb), some (.ref fl), some (Vn few), some (Vn (p ^ few)), some (.ref rr), some (Vn M), some (Vn n), some (Vn root), some (.ref ml), some (Vn first), some (Vn many), some (.int (0 + (k : Int)))] HM Q := by
                intro HM hPM sxM Q hQ
                have eM := sxM _ _ nml.1 nml.2 eL
                refine ⟨_, rfl, _, rfl, _, rfl, _, _, rfl, rfl, _, rfl, _, rfl, first + k, n, p ^ few, m / few, ?_, by omega, by omega, hqq, hme, hme2, hrnd, fun r rs HN sN nr er h1 h2 h3 h4 _ _ _ => ?_⟩
                · show [V.int ((first : Int) + (0 + (k : Int))), Vn n, Vn (p ^ few)] = [Vn (first + k), Vn n, Vn (p ^ few)]
                  rw [show (first : Int) + (0 + (k : Int)) = ((first + k : Nat) : Int) by omega]
                refine ⟨ml, r, _, _, rfl, rfl, sN _ _ eM, er, by rw [List.length_map, List.length_map]; exact szl _ (by omega), fun l hl => ?_⟩
                rw [← List.map_append]
                have sO := yac hl (.lst ((ns ++ rs).map Vn))
                refine hQ l (ns ++ rs) _ ((hPM.same sN).same sO) ((sxL.trans sxM).trans (Same.x (sN.trans sO))) zac ((hPM.same sN).lt hl) (by rw [List.length_append]; omega) (fun x hx => ?_) (fun x hx => ?_)
                · rcases List.mem_append.mp hx with h | h
                  · exact hnn x h
                  · exact h3 x h
                · rcases List.mem_append.mp hx with h | h
                  · exact List.mem_append_left _ (hnc x h)
                  · exact List.mem_append_right _ (h4 x h)
              refine ⟨_, rfl, _, _, rfl, rfl, _, rfl, ?_⟩
              refine ite2 (fun c => ?_) (fun c => ?_)
              · refine ite2 (fun _ => ?_) (fun h => absurd rfl h)
                exact body HL hPL yaq.refl _ fun l ns' H' a1 a2 a3 a4 a5 a6 a7 => ⟨a1, a2, l, ns', _, a3, a4, a5, a6, a7, rfl⟩
              · refine ⟨_, rfl, pu, g, 3, rfl, hPL, by omega, by omega, fun v HM hv hPM sxM => ?_⟩
                refine ⟨rfl, _, rfl, ?_⟩
                refine ite2 (fun _ => ?_) (fun _ => ?_)
                · exact body HM hPM sxM _ fun l ns' H' a1 a2 a3 a4 a5 a6 a7 => ⟨a1, a2, l, ns', _, a3, a4, a5, a6, a7, rfl⟩
                · exact ⟨hPM, sxL.trans sxM, ml, ns, _, sxM _ _ nml.1 nml.2 eL, nml, by omega, hnn, hnc, rfl⟩
            · rintro σ HL ⟨hPL, sxL, ml, ns, s15, eL, nml, hnl, hnn, hnc, rfl⟩
              exact hD' _ _ ⟨hPL, sxL, ml, ns, _, _, _, eL, nml, by omega, hnn, hnc, rfl⟩
          · exact hD' _ _ ⟨hPG, yaq.refl, m0, [], _, _, _, eG, nm0, by decide, fun x hx => absurd hx (by simp), fun x hx => absurd hx (by simp), rfl⟩
  · intro D' _ _ _ hD'
    refine ⟨_, rfl, _, _, rfl, rfl, _, rfl, ?_⟩
    refine ite2 (fun c => ?_) (fun c => ?_)
    · refine ⟨_, rfl, r2, rfl, ⟨_, SqL.of eB⟩, ?_⟩
      refine yar (zbd (xs := us.map V.ref)) (fun k acc H' => H' = HC ∧ acc = ((us.take k).filter fun a => decide (pn HC a = M)).map V.ref) ⟨rfl, rfl⟩ (fun i acc H' _ h => h.1 ▸ SqL.of eB) ?_ ?_ ?_
      · rintro k acc H' hk ⟨_, rfl⟩
        have := List.length_filter_le (fun a => decide (pn HC a = M)) (us.take k)
        rw [List.length_take] at this
        rw [List.length_map]; exact zak (by omega)
      · rintro k acc z H' H'' hk ⟨rfl, rfl⟩ ⟨rfl, ez⟩
        obtain ⟨a, ea, rfl⟩ := ydp ez
        obtain ⟨⟨n, x, hx, _⟩, _⟩ := huB a (List.mem_of_getElem? ea)
        refine ⟨_, rfl, a, _, _, Vn n, rfl, rfl, SqT.of hx, rfl, _, rfl, rfl, _, rfl, ?_⟩
        have ed : decide (Vn n = Vn M) = decide (n = M) := decide_eq_decide.mpr ⟨fun e => Int.ofNat.inj (V.int.inj e), fun e => by rw [e]⟩
        rw [yce ea, List.filter_append, ed]
        refine ite2 (fun c => ?_) (fun c => ?_)
        · have c1 : n = M := of_decide_eq_true c
          refine ⟨_, rfl, rfl, ?_⟩
          rw [List.map_append]
          simp [zbT hx, c1]
        · have c1 : ¬ n = M := fun h => c (decide_eq_true h)
          refine ⟨rfl, ?_⟩
          simp [zbT hx, c1]
      rw [List.length_map]
      rintro acc HD ⟨rfl, rfl⟩ r3 hr3
      rw [List.take_length]
      have s3 := yac hr3 (.lst ((us.filter fun a => decide (pn HD a = M)).map V.ref))
      refine hD' _ _ ⟨r3, us.filter fun a => decide (pn HD a = M), s3, zac, hPB.lt hr3, ?_, ?_, ?_, rfl⟩
      · exact List.length_pos_of_mem (List.mem_filter.mpr ⟨haM, decide_eq_true eMB⟩)
      · exact Nat.le_trans (List.length_filter_le _ _) hul
      · intro a ha
        have h1 := huB a (List.mem_filter.mp ha).1
        exact ⟨h1.1.same s3, by rw [pk s3 a h1.1]; exact h1.2⟩
    · exact hD' _ _ ⟨r2, us, Same.refl _, eB, n2, List.length_pos_of_mem hu0, hul, huB, rfl⟩
end
end My
end
section
-- text: PN
set_option Elab.async false
set_option linter.all false
set_option maxRecDepth 100000
set_option maxHeartbeats 4000000
namespace L2
open PySem PyProof.Rows
theorem zef {X : Cx} : OpR X (compareOp .IsNot) (fun x y H Q => ∃ a b : Bool, x = .bl a ∧ y = .bl b ∧ Q (.bl (!(a == b))) H) := by
  intro pins s σ H x y v u Q I rx ry h
  obtain ⟨a, b, rfl, rfl, q⟩ := h
  cases rx; cases ry
  exact wpAny_pure ⟨.bl _, H, I, by cases a <;> cases b <;> rfl, q⟩
end L2
namespace My
open PySem L2 Dg
local macro_rules | `(tactic| walk_at "rd") => `(tactic| repeat (first | refine ⟨_, rfl, ?_⟩ | refine ⟨_, _, rfl, rfl, ?_⟩))
section
variable {P : Program} {w : World} {K : PySem.W.Frag} {mg : Str → Option Value} {base : Heap} {f : Addr} {fd : FuncData}
theorem zbu (x : Nat) (marks : List Nat) : inV (Vn x) (marks.map Vn) = decide (x ∈ marks) := by
  unfold inV
  rw [List.any_map]
  rw [Bool.eq_iff_iff, List.any_eq_true, decide_eq_true_eq]
  constructor
  · rintro ⟨y, hy, h⟩
    have : ((y : Int) == (x : Int)) = true := h
    rw [← Int.ofNat.inj (eq_of_beq this)]; exact hy
  · intro h
    exact ⟨x, h, beq_self_eq_true ((x : Nat) : Int)⟩
theorem zbb (marks : List Nat) : (marks.map Vn).all zcR = true := by
  rw [List.all_eq_true]
  intro v hv
  obtain ⟨x, _, rfl⟩ := List.mem_map.mp hv
  rfl
end
end My
end
section
-- text: Q69a
set_option Elab.async false
set_option linter.all false
set_option maxRecDepth 100000
set_option maxHeartbeats 4000000
namespace My
open PySem L2 Dg
theorem ybK : ∀ {xs ys : List Nat}, xs.Pairwise (· < ·) → ys.Pairwise (· < ·) → (∀ x, x ∈ xs ↔ x ∈ ys) → xs = ys
  | [], [], _, _, _ => rfl
  | [], y :: ys, _, _, h => absurd ((h y).mpr List.mem_cons_self) (by simp)
  | x :: xs, [], _, _, h => absurd ((h x).mp List.mem_cons_self) (by simp)
  | x :: xs, y :: ys, a1, a2, h => by
    have a1 := List.pairwise_cons.mp a1
    have a2 := List.pairwise_cons.mp a2
    have hxy : x = y := by
      rcases List.mem_cons.mp ((h x).mp List.mem_cons_self) with e | e
      · exact e
      · rcases List.mem_cons.mp ((h y).mpr List.mem_cons_self) with e' | e'
        · exact e'.symm
        · have := a2.1 x e; have := a1.1 y e'; omega
    subst hxy
    rw [ybK a1.2 a2.2 fun z => ?_]
    constructor
    · intro hz
      rcases List.mem_cons.mp ((h z).mp (List.mem_cons_of_mem _ hz)) with e | e
      · have := a1.1 z hz; omega
      · exact e
    · intro hz
      rcases List.mem_cons.mp ((h z).mpr (List.mem_cons_of_mem _ hz)) with e | e
      · have := a2.1 z hz; omega
      · exact e
theorem Tab.fld {K : PySem.W.Frag} {H : Hp} {tb fa pa la : Addr} {p m t b : Nat} (T : Tab H tb fa pa la p m t b) : Fld K H fa p m t := SqT.of T.f
theorem zbA : ∀ (n : Nat) (l : List Nat), l.Nodup → (∀ x ∈ l, x < n) → l.length ≤ n
  | 0, [], _, _ => Nat.le_refl _
  | 0, x :: _, _, h => absurd (h x List.mem_cons_self) (by omega)
  | n + 1, l, hd, h => by
    have h1 := zbA n (l.erase n) (hd.erase n) fun x hx => by
      have := (hd.mem_erase_iff).mp hx
      have := h x this.2
      omega
    have := List.length_erase_of_mem (a := n) (l := l)
    by_cases c : n ∈ l
    · rw [this c] at h1; omega
    · rw [List.erase_of_not_mem c] at h1; omega
theorem zcC {ns' : List Int} {xs : List Nat} (h : ns'.Perm (xs.map fun n : Nat => (n : Int))) (ha : ns'.Pairwise (· ≤ ·)) (hd : xs.Nodup) : ∃ ms : List Nat, ns'.map V.int = ms.map Vn ∧ ms.Pairwise (· < ·) ∧ ∀ x, x ∈ ms ↔ x ∈ xs := by
  have hmem : ∀ i ∈ ns', ∃ n ∈ xs, (n : Int) = i := fun i hi => List.mem_map.mp (h.mem_iff.mp hi)
  have hn : ns'.Nodup := h.nodup_iff.mpr (by
    rw [List.Nodup, List.pairwise_map]
    exact hd.imp fun hne e => hne (Int.ofNat.inj e))
  refine ⟨ns'.map Int.toNat, ?_, ?_, fun x => ?_⟩
  · rw [List.map_map]
    refine List.map_congr_left fun i hi => ?_
    obtain ⟨n, _, rfl⟩ := hmem i hi
    rfl
  · rw [List.pairwise_map]
    refine List.Pairwise.imp_of_mem ?_ (ha.and hn)
    intro a b h1 h2 h3
    obtain ⟨n1, _, rfl⟩ := hmem a h1
    obtain ⟨n2, _, rfl⟩ := hmem b h2
    have := h3.1
    have h4 := h3.2
    rw [Int.toNat_natCast, Int.toNat_natCast]
    have : n1 ≠ n2 := fun e => h4 (by rw [e])
    omega
  · rw [List.mem_map]
    constructor
    · rintro ⟨i, hi, rfl⟩
      obtain ⟨n, hn', rfl⟩ := hmem i hi
      exact hn'
    · intro hx
      exact ⟨(x : Int), h.mem_iff.mpr (List.mem_map.mpr ⟨x, hx, rfl⟩), rfl⟩
noncomputable def yfc (n q s x : Nat) : Bool := @decide (∃ j, x = s * q ^ j % n) (Classical.propDecidable _)
theorem yeH {n q s x : Nat} : yfc n q s x = true ↔ ∃ j, x = s * q ^ j % n := @decide_eq_true_iff _ (Classical.propDecidable _)
noncomputable def orbL (n q s : Nat) : List Nat := (List.range n).filter (yfc n q s)
theorem yaF {n q s x : Nat} (hn : 0 < n) : x ∈ orbL n q s ↔ ∃ j, x = s * q ^ j % n := by
  unfold orbL
  rw [List.mem_filter, List.mem_range, yeH]
  constructor
  · exact fun h => h.2
  · rintro ⟨j, rfl⟩
    exact ⟨Nat.mod_lt _ hn, j, rfl⟩
theorem ycI (n q s : Nat) : (orbL n q s).Pairwise (· < ·) := List.Pairwise.filter _ List.pairwise_lt_range
theorem zcG {n q s : Nat} (hn : 0 < n) : ∃ h tl, orbL n q s = h :: tl := by
  have : s * q ^ 0 % n ∈ orbL n q s := (yaF hn).mpr ⟨0, rfl⟩
  cases e : orbL n q s with
  | nil => rw [e] at this; cases this
  | cons h tl => exact ⟨h, tl, rfl⟩
noncomputable def yaP (n q k : Nat) : List (List Nat) := ((List.range k).filter fun s => decide ((orbL n q s).head? = some s)).map (orbL n q)
theorem ydu (n q k : Nat) : yaP n q (k + 1) = yaP n q k ++ (if (orbL n q k).head? = some k then [orbL n q k] else []) := by
  unfold yaP
  rw [List.range_succ, List.filter_append, List.map_append]
  congr 1
  by_cases h : (orbL n q k).head? = some k
  · simp [h]
  · simp [h]
theorem zbQ (n q k : Nat) : (yaP n q k).length ≤ k := by
  have := List.length_filter_le (fun s => decide ((orbL n q s).head? = some s)) (List.range k)
  rw [List.length_range] at this
  unfold yaP; rw [List.length_map]; exact this
noncomputable def Tups (H : Hp) (ds : List Addr) (ls : List (List Nat)) : Prop := ds.length = ls.length ∧ ∀ (i : Nat) d, ds[i]? = some d → ∃ rs, ls[i]? = some rs ∧ H d = some (.tup (rs.map Vn))
theorem Tups.same {H H' : Hp} {ds : List Addr} {ls : List (List Nat)} (h : Tups H ds ls) (s : Same H H') : Tups H' ds ls := ⟨h.1, fun i d e => by obtain ⟨rs, a, b⟩ := h.2 i d e; exact ⟨rs, a, s _ _ b⟩⟩
theorem Tups.at {H : Hp} {ds : List Addr} {ls : List (List Nat)} {l : Addr} {xs : List V} {o : HO} (h : Tups H ds ls) (hl : H l = some (.lst xs)) : Tups (upd H l o) ds ls := ⟨h.1, fun i d e => by
  obtain ⟨rs, a, b⟩ := h.2 i d e
  refine ⟨rs, a, ?_⟩
  rw [zag (fun q => by rw [q, hl] at b; cases b)]; exact b⟩
theorem Tups.snoc {H : Hp} {ds : List Addr} {ls : List (List Nat)} {d : Addr} {rs : List Nat} (h : Tups H ds ls) (hd : H d = some (.tup (rs.map Vn))) : Tups H (ds ++ [d]) (ls ++ [rs]) := by
  refine ⟨by simp [h.1], fun i e he => ?_⟩
  rw [List.getElem?_append] at he
  split at he
  · rename_i hi
    obtain ⟨r, a, b⟩ := h.2 i e he
    exact ⟨r, by rw [List.getElem?_append_left (by rw [← h.1]; exact hi)]; exact a, b⟩
  · rename_i hi
    have hi2 : i = ds.length := by
      have := (List.getElem?_eq_some_iff.mp he).1
      simp at this; omega
    subst hi2
    simp at he
    subst he
    exact ⟨rs, by rw [h.1, List.getElem?_append_right (Nat.le_refl _)]; simp, hd⟩
theorem zeB {i n q L : Nat} (hd : (zas i n q L).Nodup) (hn : i * q ^ L % n ∉ zas i n q L) : (zas i n q (L + 1)).Nodup := by
  have e1 : zas i n q (L + 1) = zas i n q L ++ [i * q ^ L % n] := by unfold zas; rw [List.range_succ, List.map_append]; rfl
  rw [e1]
  refine List.nodup_append.mpr ⟨hd, List.nodup_cons.mpr ⟨by simp, List.nodup_nil⟩, fun x hx y hy e => ?_⟩
  rw [List.mem_singleton.mp hy] at e
  exact hn (e ▸ hx)
theorem yck {i n q L : Nat} : i * q ^ L % n * q % n = i * q ^ (L + 1) % n := by rw [Nat.mod_mul_mod, Nat.mul_assoc, ← Nat.pow_succ]
theorem yec {i n q L : Nat} (hL : 0 < L) (h : i * q ^ L % n ∈ zas i n q L) (j : Nat) : i * q ^ j % n ∈ zas i n q L := by
  induction j with
  | zero => exact List.mem_map.mpr ⟨0, List.mem_range.mpr hL, rfl⟩
  | succ j ih =>
    obtain ⟨k, hk, ek⟩ := List.mem_map.mp ih
    have hk := List.mem_range.mp hk
    have e2 : i * q ^ (j + 1) % n = i * q ^ (k + 1) % n := by rw [← yck, ← yck, ek]
    rw [e2]
    by_cases c : k + 1 < L
    · exact List.mem_map.mpr ⟨k + 1, List.mem_range.mpr c, rfl⟩
    · rw [show k + 1 = L by omega]; exact h
theorem ydA {i n q L x : Nat} (h : x ∈ zas i n q L) : ∃ j, x = i * q ^ j % n := by
  obtain ⟨j, _, rfl⟩ := List.mem_map.mp h
  exact ⟨j, rfl⟩
theorem yeJ (i n q L : Nat) : (zas i n q L).map Vn ++ [Vn (i * q ^ L % n)] = (zas i n q (L + 1)).map Vn := by
  unfold zas; rw [List.range_succ, List.map_append, List.map_append]; rfl
section
variable {p m t : Nat} (G : Good p m t)
include G
theorem yfZ {few root n : Nat} {marks : List Nat} (W : Whl p m t few root n marks) (a b : Nat) : (p ^ few) ^ (m / few * a + b) % n = (p ^ few) ^ b % n := by
  have he := W.ord.round G W.r0 W.rq W.fewm W.few1
  have h1 : ((p ^ few) ^ (m / few)) ^ a % n = 1 % n := by rw [Nat.pow_mod, he, ← Nat.pow_mod, Nat.one_pow]
  rw [Nat.pow_add, Nat.pow_mul, Nat.mul_mod, h1, ← Nat.mul_mod, Nat.one_mul]
theorem zf5 {few root n : Nat} {marks : List Nat} (W : Whl p m t few root n marks) : 1 ≤ m / few := Nat.div_pos (Nat.le_of_dvd (by have := G.hm; omega) (Nat.dvd_of_mod_eq_zero W.fewm)) W.few1
theorem ycQ {few root n s x : Nat} {marks : List Nat} (W : Whl p m t few root n marks) (hs : s < n) (hx : x ∈ orbL n (p ^ few) s) : s ∈ orbL n (p ^ few) x := by
  have hn := W.ord.pos
  obtain ⟨j, rfl⟩ := (yaF hn).mp hx
  have he1 := zf5 G W
  refine (yaF hn).mpr ⟨j * (m / few - 1), ?_⟩
  rw [Nat.mod_mul_mod, Nat.mul_assoc, ← Nat.pow_add]
  have e : j + j * (m / few - 1) = m / few * j + 0 := by
    obtain ⟨k, hk⟩ : ∃ k, m / few = k + 1 := ⟨m / few - 1, by omega⟩
    rw [hk, Nat.add_sub_cancel, Nat.add_zero, Nat.add_mul, Nat.one_mul, Nat.mul_comm j k, Nat.add_comm]
  rw [e, Nat.mul_mod, yfZ G W, ← Nat.mul_mod, Nat.pow_zero, Nat.mul_one, Nat.mod_eq_of_lt hs]
theorem zc4 {few root n s x : Nat} {marks : List Nat} (W : Whl p m t few root n marks) (hs : s < n) (hx : x ∈ orbL n (p ^ few) s) : orbL n (p ^ few) x = orbL n (p ^ few) s := by
  have hn := W.ord.pos
  have key : ∀ {a b y : Nat}, a ∈ orbL n (p ^ few) b → y ∈ orbL n (p ^ few) a → y ∈ orbL n (p ^ few) b := fun {a b y} h1 h2 => by
    obtain ⟨j, rfl⟩ := (yaF hn).mp h1
    obtain ⟨i, rfl⟩ := (yaF hn).mp h2
    exact (yaF hn).mpr ⟨j + i, by rw [Nat.mod_mul_mod, Nat.mul_assoc, ← Nat.pow_add]⟩
  exact ybK (ycI _ _ _) (ycI _ _ _) fun y => ⟨key hx, key (ycQ G W hs hx)⟩
end
section
variable {p m t : Nat} (G : Good p m t)
include G
theorem zfd {few root n s : Nat} {marks : List Nat} (W : Whl p m t few root n marks) (hs : s < n) : ∃ h, h < n ∧ h ∈ orbL n (p ^ few) s ∧ (orbL n (p ^ few) h).head? = some h := by
  obtain ⟨h, tl, e⟩ := zcG (q := p ^ few) (s := s) W.ord.pos
  have hm : h ∈ orbL n (p ^ few) s := by rw [e]; exact List.mem_cons_self
  exact ⟨h, List.mem_range.mp (List.mem_filter.mp hm).1, hm, by rw [zc4 G W hs hm, e]; rfl⟩
theorem yej {few root n x : Nat} {marks : List Nat} (W : Whl p m t few root n marks) (hx : x < n) : ∃ l ∈ yaP n (p ^ few) n, x ∈ l := by
  obtain ⟨h, h1, h2, h3⟩ := zfd G W hx
  exact ⟨_, List.mem_map.mpr ⟨h, List.mem_filter.mpr ⟨List.mem_range.mpr h1, decide_eq_true h3⟩, rfl⟩, ycQ G W hx h2⟩
theorem ye4 {few root n : Nat} {marks : List Nat} (W : Whl p m t few root n marks) : (yaP n (p ^ few) n).flatten.Nodup := by
  rw [List.Nodup, List.pairwise_flatten]
  constructor
  · intro l hl
    obtain ⟨s, _, rfl⟩ := List.mem_map.mp hl
    exact (ycI _ _ _).imp fun h => Nat.ne_of_lt h
  · unfold yaP
    rw [List.pairwise_map]
    refine List.Pairwise.imp_of_mem (fun {a b} ha hb hne x hx y hy e => ?_) ((List.nodup_range (n := n)).filter _)
    subst e
    have ha' := List.mem_filter.mp ha
    have hb' := List.mem_filter.mp hb
    have e1 := zc4 G W (List.mem_range.mp ha'.1) hx
    have e2 := zc4 G W (List.mem_range.mp hb'.1) hy
    have h1 : (orbL n (p ^ few) a).head? = some a := of_decide_eq_true ha'.2
    have h2 : (orbL n (p ^ few) b).head? = some b := of_decide_eq_true hb'.2
    rw [← e1, e2, h2] at h1
    exact hne (Option.some.inj h1).symm
end
section
variable {P : Program} {w : World} {K : PySem.W.Frag} {mg : Str → Option Value} {base : Heap} {f : Addr} {fd : FuncData}
noncomputable def zdH (K : PySem.W.Frag) : Sp := fun vs H Q _ => ∃ (n q s : Nat), vs = [Vn n, Vn q, Vn s] ∧ 0 < n ∧ n ≤ 63 ∧ s < n ∧ ∀ r H', Same H H' → H r = none → H' r = some (.tup ((orbL n q s).map Vn)) → Q (.ref r) H'
theorem ya2 : yaj ["n", "q", "start", "ring", "at"] ["n", "q", "start"] (zae zbJ) := ⟨rfl, rfl, rfl, by decide +kernel, rfl, by decide +kernel, by decide +kernel⟩
theorem zeW (B : Bl mg) (F : Fun K "ring_from" "ring_from" zbJ f fd) : FnOk P w K mg base CX0 1 f fd ["n", "q", "start"] (zdH K) := by
  refine F.ok ya2 (fun vs H Q E h => ?_) (fun cdv A outer s H vs Q E hr h => ?_)
  · obtain ⟨n, q, s, rfl, _⟩ := h; rfl
  obtain ⟨n, q, st, rfl, hn0, hn, hs, ret⟩ := h
  refine ⟨_, (@yaa _ _ _ _ _ (@yag _ _ 3 _ _ _ _ ya2.nd rfl (Or.inl rfl) (@zaR _ _ _ _ (@zaa _ _ _ _ _ (pv 2) zab (by rfl))) (by rfl) (by first | exact .inl rfl | exact .inr rfl | assumption)) (@yaa _ _ _ _ _ (@yag _ _ 4 _ _ _ _ ya2.nd rfl (Or.inl rfl) (@zah _ _ _ _ _ _ _ _ zat (@zah _ _ _ _ _ _ _ _ yaK (pv 2) (pv 1)) (pv 0)) (by rfl) (by first | exact .inl rfl | exact .inr rfl | assumption)) (@yaa _ _ _ _ _ (@zaJ _ _ _ _ _ _ PassesOwn.never (@zai _ _ _ _ _ _ _ _ zcW (pv 4) (pv 3) (by with_unfolding_all rfl)) (@yaa _ _ _ _ _ (@yby _ _ _ _ (@zc8 _ _ _ _ _ _ _ _ _ _ _ _ PySem.F.plainAttrs_list PySem.F.slot_list_append PySem.F.type_list_append yaY (pv 3) (@zaa _ _ _ _ _ (pv 4) zab (by rfl)) (by rfl) (by rfl) (by rfl) (by rfl) (by rfl)) (by rfl)) (@zad _ _ _ (@yag _ _ 4 _ _ _ _ ya2.nd rfl (Or.inl rfl) (@zah _ _ _ _ _ _ _ _ zat (@zah _ _ _ _ _ _ _ _ yaK (pv 4) (pv 1)) (pv 0)) (by rfl) (by first | exact .inl rfl | exact .inr rfl | assumption))))) (@zad _ _ _ (@zaj _ _ _ _ (@zaY _ _ _ _ _ _ _ _ _ yaL rfl (B "tuple" (by decide)) yao (@zaa _ _ _ _ _ (@yai _ _ _ _ _ _ _ _ _ zb8 rfl (B "sorted" (by decide)) yba (@zaa _ _ _ _ _ (pv 3) zab (by rfl)) (by decide) (by decide) (by rfl) (by rfl)) zab (by rfl)) (by decide) (by decide) (by rfl) (by rfl))))))), ?_⟩
  refine ⟨_, rfl, szl 1, fun l hl => ?_⟩
  refine ⟨_, rfl, _, rfl, _, _, rfl, rfl, .inl ⟨by show -(2 ^ 64 : Int) < (st : Int); omega, by show (st : Int) < 2 ^ 64; omega⟩, _, rfl, _, _, rfl, rfl, by show (0 : Int) < n; omega, ?_⟩
  have e0 : upd H l (.lst [Vn st]) = upd H l (.lst ((zas st n q 1).map Vn)) := by
    congr 2
    show [Vn st] = [Vn (st * q ^ 0 % n)]
    rw [Nat.pow_zero, Nat.mul_one, Nat.mod_eq_of_lt hs]
  dsimp only [yaC]
  rw [show V.int ((st : Int) * (q : Int) % (n : Int)) = Vn (st * q ^ 1 % n) by rw [Nat.pow_one]; rfl]
  refine zaK (fun σ H' => ∃ L : Nat, 1 ≤ L ∧ (zas st n q L).Nodup ∧ H' = upd H l (.lst ((zas st n q L).map Vn)) ∧ σ = [some (Vn n), some (Vn q), some (Vn st), some (.ref l), some (Vn (st * q ^ L % n))]) (fun _ H' => 64 - ycq H' l) ⟨1, Nat.le_refl _, by simp [zas], e0, rfl⟩ ?_
  rintro σ H' ⟨L, h1, hnd, rfl, rfl⟩
  have el : upd H l (.lst ((zas st n q L).map Vn)) l = some (.lst ((zas st n q L).map Vn)) := zac
  have ll : (zas st n q L).length = L := by simp [zas]
  have hL : L ≤ n := by
    have := zbA n _ hnd fun x hx => by obtain ⟨j, rfl⟩ := ydA hx; exact Nat.mod_lt _ hn0
    omega
  refine ⟨_, rfl, _, rfl, l, _, rfl, .inl (SqL.of el), rfl, zbb _, _, rfl, ?_⟩
  rw [zbu]
  refine ite2 (fun c => ?_) (fun c => ?_)
  · have c' : st * q ^ L % n ∉ zas st n q L := fun h => by rw [decide_eq_true h] at c; exact absurd c (by decide)
    have hnd' := zeB hnd c'
    refine ⟨fun σ' H' => H' = upd H l (.lst ((zas st n q (L + 1)).map Vn)) ∧ σ' = [some (Vn n), some (Vn q), some (Vn st), some (.ref l), some (Vn (st * q ^ (L + 1) % n))], ?_, ?_⟩
    · rintro σ' H' ⟨rfl, rfl⟩
      refine ⟨_, ?_, rfl, L + 1, by omega, hnd', rfl, rfl⟩
      rw [ya0 zac, ya0 zac, List.length_map, List.length_map, ll, show (zas st n q (L + 1)).length = L + 1 by simp [zas]]
      omega
    · refine ⟨_, rfl, .inl ⟨rfl, _, SqL.of el⟩, _, rfl, l, _, _, rfl, rfl, el, by rw [List.length_map, ll]; exact zak (by omega), ?_⟩
      rw [zcH, yeJ]
      have hlt : st * q ^ L % n < n := Nat.mod_lt _ hn0
      refine ⟨_, rfl, _, rfl, _, _, rfl, rfl, .inl ⟨by show -(2 ^ 64 : Int) < ((st * q ^ L % n : Nat) : Int); omega, by show ((st * q ^ L % n : Nat) : Int) < 2 ^ 64; omega⟩, _, rfl, _, _, rfl, rfl, by show (0 : Int) < n; omega, ?_⟩
      refine ⟨rfl, ?_⟩
      rw [← yck]; rfl
  · have c' : st * q ^ L % n ∈ zas st n q L := Classical.byContradiction fun h => c (by rw [decide_eq_false h]; rfl)
    refine ⟨_, rfl, l, ((zas st n q L).map fun n : Nat => (n : Int)), rfl, SqL.of (by rw [mapI]; exact el), by rw [List.length_map, ll]; omega, fun l2 ns' hl2 perm asc => ?_⟩
    obtain ⟨ms, ems, hasc, hmm⟩ := zcC perm asc hnd
    have e : ms = orbL n q st := ybK hasc (ycI _ _ _) fun x => by
      rw [hmm, yaF hn0]
      exact ⟨ydA, fun ⟨j, e⟩ => e ▸ yec (by omega) c' j⟩
    rw [ems, e]
    have s1 := (yac hl (.lst ((zas st n q L).map Vn))).trans (yac hl2 (.lst ((orbL n q st).map Vn)))
    refine ⟨l2, _, rfl, .inl ⟨SqL.of zac, fun r hr => ?_⟩⟩
    exact ret r _ (s1.trans (yac hr _)) (s1.free hr) zac
noncomputable def zdJ : Sp := fun vs H Q _ => ∃ (n q : Nat), vs = [Vn n, Vn q] ∧ 0 < n ∧ n ≤ 63 ∧ ∀ r (ds : List Addr) H', Same H H' → H' r = some (.tup (ds.map V.ref)) → Tups H' ds (yaP n q n) → Q (.ref r) H'
theorem zb5 : yaj ["n", "q", "found", "start", "ring"] ["n", "q"] (zae ydq) := ⟨rfl, rfl, rfl, by decide +kernel, rfl, by decide +kernel, by decide +kernel⟩
theorem ze6 (B : Bl mg) (h_ring_from : Has P w K mg base 1 "ring_from" ["n", "q", "start"] (zdH K)) (F : Fun K "rings" "rings" ydq f fd) : FnOk P w K mg base CX0 2 f fd ["n", "q"] zdJ := by
  refine F.ok zb5 (fun vs H Q E h => ?_) (fun cdv A outer s H vs Q E hr h => ?_)
  · obtain ⟨n, q, rfl, _⟩ := h; rfl
  obtain ⟨n, q, rfl, hn0, hn, ret⟩ := h
  refine ⟨_, (@yaa _ _ _ _ _ (@yag _ _ 2 _ _ _ _ zb5.nd rfl (Or.inl rfl) (@zaR _ _ _ _ zab) (by rfl) (by first | exact .inl rfl | exact .inr rfl | assumption)) (@yaa _ _ _ _ _ (@zaG _ _ _ _ _ _ _ _ PassesOwn.never rfl (@zaD _ _ _ _ _ _ rfl (B "range" (by decide)) (@zaa _ _ _ _ _ (pv 0) zab (by rfl)) (by rfl)) (@yae _ _ 3 _ zb5.nd rfl (Or.inl rfl) (by first | exact .inl rfl | exact .inr rfl | assumption)) (@yaa _ _ _ _ _ (@yag _ _ 4 _ _ _ _ zb5.nd rfl (Or.inl rfl) (@yad _ _ _ _ _ _ _ _ _ _ _ h_ring_from hr (by decide) rfl (@zaa _ _ _ _ _ (pv 0) (@zaa _ _ _ _ _ (pv 1) (@zaa _ _ _ _ _ (pv 3) zab (by rfl)) (by rfl)) (by rfl)) (by decide) (by rfl) (by rfl)) (by rfl) (by first | exact .inl rfl | exact .inr rfl | assumption)) (@zad _ _ _ (@zaC _ _ _ _ _ _ _ _ (@zai _ _ _ _ _ _ _ _ zbx (@zao _ _ _ _ _ _ _ zav (pv 4) yab (fun _ _ => rfl)) (pv 3) (zam _)) (@zad _ _ _ (@yby _ _ _ _ (@zc8 _ _ _ _ _ _ _ _ _ _ _ _ PySem.F.plainAttrs_list PySem.F.slot_list_append PySem.F.type_list_append yaY (pv 2) (@zaa _ _ _ _ _ (pv 4) zab (by rfl)) (by rfl) (by rfl) (by rfl) (by rfl) (by rfl)) (by rfl))) yam))) (by intro _; rfl)) (@zad _ _ _ (@zaj _ _ _ _ (@zaY _ _ _ _ _ _ _ _ _ yaL rfl (B "tuple" (by decide)) yao (@zaa _ _ _ _ _ (pv 2) zab (by rfl)) (by decide) (by decide) (by rfl) (by rfl)))))), ?_⟩
  refine ⟨szl 0, fun l hl => ?_⟩
  have s1 := yac hl (.lst [])
  refine ⟨_, rfl, (n : Int), rfl, by omega, by omega, ?_⟩
  refine yaw (lo := 0) (n := (n : Int).toNat) (fun k σ H' => Same H H' ∧ ∃ (ds : List Addr) (s3 s4 : Option V), H' l = some (.lst (ds.map V.ref)) ∧ Tups H' ds (yaP n q k) ∧ σ = [some (Vn n), some (Vn q), some (.ref l), s3, s4]) ⟨s1, [], none, none, zac, ⟨rfl, fun i d e => by simp at e⟩, rfl⟩ ?_ ?_
  · rintro k σ H1 hk ⟨s2, ds, s3, s4, e1, hT, rfl⟩
    rw [Int.toNat_natCast] at hk
    have hlen := zbQ n q k
    refine ⟨_, rfl, _, rfl, _, rfl, n, q, k, by rw [Int.zero_add]; rfl, hn0, hn, hk, fun r H2 s5 _ e2 => ?_⟩
    obtain ⟨h, tl, eh⟩ := zcG (q := q) (s := k) hn0
    have hT2 := hT.same s5
    have e3 := s5 _ _ e1
    refine ⟨_, rfl, r, _, _, Vn h, rfl, rfl, SqT.of e2, by rw [eh]; exact ybk (j := 0) rfl, _, rfl, rfl, _, rfl, ?_⟩
    have ed : decide (Vn h = V.int (0 + (k : Int))) = decide (h = k) := decide_eq_decide.mpr ⟨fun e => by have := V.int.inj e; omega, fun e => by rw [e, Int.zero_add]⟩
    rw [ed, ydu]
    refine ite2 (fun c => ?_) (fun c => ?_)
    · have c' : h = k := of_decide_eq_true c
      rw [if_pos (by rw [eh, c']; rfl)]
      refine ⟨_, rfl, .inl ⟨rfl, _, SqL.of e3⟩, _, rfl, l, _, _, rfl, rfl, e3, by rw [List.length_map, hT.1]; exact zak (by omega), ?_⟩
      refine ⟨ycN (s2.trans s5) hl, ds ++ [r], _, _, by rw [zac, List.map_append]; rfl, (hT2.snoc e2).at e3, rfl⟩
    · have c' : h ≠ k := fun e => c (decide_eq_true e)
      rw [if_neg (by rw [eh]; intro e; exact c' (Option.some.inj e)), List.append_nil]
      exact ⟨s2.trans s5, ds, _, _, e3, hT2, rfl⟩
  · rw [Int.toNat_natCast]
    rintro σ H1 ⟨s2, ds, s3, s4, e1, hT, rfl⟩
    refine ⟨_, rfl, l, _, rfl, .inl ⟨SqL.of e1, fun r hr => ?_⟩⟩
    exact ret r ds _ (s2.trans (yac hr _)) zac (hT.same (yac hr _))
end
end My
end
section
-- text: Q69b
set_option Elab.async false
set_option linter.all false
set_option maxRecDepth 100000
set_option maxHeartbeats 4000000
namespace My
open PySem L2 Dg
noncomputable def fewL (n q : Nat) (M : List Nat) : List Nat := (List.range n).filter fun x => (orbL n q x).any fun i => decide (i ∈ M)
noncomputable def traL (n q : Nat) (M : List Nat) : List Nat := (List.range n).filter fun x => (orbL n q x).all fun i => decide (i ∈ M)
theorem zeC {n q x : Nat} {M : List Nat} (hn : 0 < n) : x ∈ fewL n q M ↔ x < n ∧ ∃ j, x * q ^ j % n ∈ M := by
  unfold fewL
  rw [List.mem_filter, List.mem_range, List.any_eq_true]
  constructor
  · rintro ⟨h, i, hi, hm⟩
    obtain ⟨j, rfl⟩ := (yaF hn).mp hi
    exact ⟨h, j, of_decide_eq_true hm⟩
  · rintro ⟨h, j, hm⟩
    exact ⟨h, _, (yaF hn).mpr ⟨j, rfl⟩, decide_eq_true hm⟩
theorem yed {n q x : Nat} {M : List Nat} (hn : 0 < n) : x ∈ traL n q M ↔ x < n ∧ ∀ j, x * q ^ j % n ∈ M := by
  unfold traL
  rw [List.mem_filter, List.mem_range, List.all_eq_true]
  constructor
  · rintro ⟨h, h2⟩
    exact ⟨h, fun j => of_decide_eq_true (h2 _ ((yaF hn).mpr ⟨j, rfl⟩))⟩
  · rintro ⟨h, h2⟩
    refine ⟨h, fun i hi => ?_⟩
    obtain ⟨j, rfl⟩ := (yaF hn).mp hi
    exact decide_eq_true (h2 j)
theorem yei (n q : Nat) (M : List Nat) : (fewL n q M).Pairwise (· < ·) := List.Pairwise.filter _ List.pairwise_lt_range
theorem yeh (n q : Nat) (M : List Nat) : (traL n q M).Pairwise (· < ·) := List.Pairwise.filter _ List.pairwise_lt_range
theorem yfr (n q : Nat) (M : List Nat) : (fewL n q M).length ≤ n := by
  have := List.length_filter_le (fun x => (orbL n q x).any fun i => decide (i ∈ M)) (List.range n)
  rw [List.length_range] at this; exact this
theorem zfF (n q : Nat) (M : List Nat) : (traL n q M).length ≤ n := by
  have := List.length_filter_le (fun x => (orbL n q x).all fun i => decide (i ∈ M)) (List.range n)
  rw [List.length_range] at this; exact this
theorem yfv (n q x j i : Nat) : x * q ^ j % n * q ^ i % n = x * q ^ (j + i) % n := by rw [Nat.mod_mul_mod, Nat.mul_assoc, ← Nat.pow_add]
section
variable {p m t : Nat} (G : Good p m t)
include G
theorem yfN {few root n : Nat} {M : List Nat} (W : Whl p m t few root n M) (ch : List Nat → Bool) : ((yaP n (p ^ few) n).filter ch).flatten.Nodup := by
  have h := ye4 G W
  rw [List.Nodup, List.pairwise_flatten] at h ⊢
  exact ⟨fun l hl => h.1 l (List.mem_filter.mp hl).1, h.2.filter _⟩
theorem yfo {few root n : Nat} {M : List Nat} (W : Whl p m t few root n M) (ch : List Nat → Bool) (x : Nat) : x ∈ ((yaP n (p ^ few) n).filter ch).flatten ↔ x < n ∧ ch (orbL n (p ^ few) x) = true := by
  rw [List.mem_flatten]
  constructor
  · rintro ⟨l, hl, hx⟩
    obtain ⟨h1, h2⟩ := List.mem_filter.mp hl
    obtain ⟨s, hs, rfl⟩ := List.mem_map.mp h1
    have hs := List.mem_range.mp (List.mem_filter.mp hs).1
    refine ⟨List.mem_range.mp (List.mem_filter.mp hx).1, ?_⟩
    rw [zc4 G W hs hx]; exact h2
  · rintro ⟨h, h2⟩
    obtain ⟨l, hl, hx⟩ := yej G W h
    refine ⟨l, List.mem_filter.mpr ⟨hl, ?_⟩, hx⟩
    obtain ⟨s, hs, rfl⟩ := List.mem_map.mp hl
    have hs := List.mem_range.mp (List.mem_filter.mp hs).1
    rw [← zc4 G W hs hx]; exact h2
end
section
variable {P : Program} {w : World} {K : PySem.W.Frag} {mg : Str → Option Value} {base : Heap} {f : Addr} {fd : FuncData}
noncomputable def yci (K : PySem.W.Frag) : Sp := fun vs H Q _ => ∃ (wa fa : Addr) (p m t few root n fewer : Nat) (mv : V), vs = [.ref wa, Vn fewer] ∧ SqT K H wa [.ref fa, Vn few, Vn root, mv] ∧ Fld K H fa p m t ∧ Good p m t ∧ 0 < root ∧ root < p ^ m ∧ Ord p m t root n ∧ n ≤ 63 ∧ fewer ≤ 6 ∧
  ∀ r (ds : List Addr) H', Same H H' → H' r = some (.tup (ds.map V.ref)) → Tups H' ds (yaP n (p ^ fewer) n) → Q (.ref r) H'
theorem zcr : yaj ["wheel", "fewer"] ["wheel", "fewer"] (zae ybj) := ⟨rfl, rfl, rfl, by decide +kernel, rfl, by decide +kernel, by decide +kernel⟩
theorem yeC (B : Bl mg) (h_rings : Has P w K mg base 2 "rings" ["n", "q"] zdJ) (h_length : Has P w K mg base 5 "length" ["wheel"] (zb9 K)) (h_number_power : Has P w K mg base 1 "number_power" ["base", "many"] yal) (F : Fun K "fewer_rings" "fewer_rings" ybj f fd) : FnOk P w K mg base CX0 6 f fd ["wheel", "fewer"] (yci K) := by
  refine F.ok zcr (fun vs H Q E h => ?_) (fun cdv A outer s H vs Q E hr h => ?_)
  · obtain ⟨wa, fa, p, m, t, few, root, n, fewer, mv, rfl, _⟩ := h; rfl
  obtain ⟨wa, fa, p, m, t, few, root, n, fewer, mv, rfl, hw, hF, G, r0, rq, o, hn, hf, q⟩ := h
  refine ⟨_, (@zad _ _ _ (@zaj _ _ _ _ (@yad _ _ _ _ _ _ _ _ _ _ _ h_rings hr (by decide) rfl (@zaa _ _ _ _ _ (@yad _ _ _ _ _ _ _ _ _ _ _ h_length hr (by decide) rfl (@zaa _ _ _ _ _ (pv 0) zab (by rfl)) (by decide) (by rfl) (by rfl)) (@zaa _ _ _ _ _ (@yad _ _ _ _ _ _ _ _ _ _ _ h_number_power hr (by decide) rfl (@zaa _ _ _ _ _ (@zao _ _ _ _ _ _ _ zav (@zao _ _ _ _ _ _ _ zav (pv 0) yab (fun _ _ => rfl)) yab (fun _ _ => rfl)) (@zaa _ _ _ _ _ (pv 1) zab (by rfl)) (by rfl)) (by decide) (by rfl) (by rfl)) zab (by rfl)) (by rfl)) (by decide) (by rfl) (by rfl)))), ?_⟩
  refine ⟨_, rfl, wa, fa, p, m, t, few, root, _, rfl, hw, hF, G, r0, rq, fun n' o' _ => ?_⟩
  cases o'.uniq o
  refine ⟨_, rfl, wa, _, _, .ref fa, rfl, rfl, hw, rfl, fa, _, _, Vn p, rfl, rfl, hF, rfl, _, rfl, p, fewer, rfl, p_le G.hp G.hm G.hq, by omega, ?_⟩
  exact ⟨n, p ^ fewer, rfl, o.pos, hn, q⟩
end
end My
end
section
-- text: Q69c
set_option Elab.async false
set_option linter.all false
set_option maxRecDepth 100000
set_option maxHeartbeats 4000000
namespace My
open PySem L2 Dg
theorem Tups.get {H : Hp} {ds : List Addr} {ls : List (List Nat)} {i : Nat} (h : Tups H ds ls) (hi : i < ls.length) : ∃ d, ds[i]? = some d ∧ H d = some (.tup ((ls.getD i []).map Vn)) := by
  have hi2 : i < ds.length := by rw [h.1]; exact hi
  obtain ⟨rs, a, b⟩ := h.2 i ds[i] (List.getElem?_eq_getElem hi2)
  refine ⟨ds[i], List.getElem?_eq_getElem hi2, ?_⟩
  rw [List.getD_eq_getElem?_getD, a]; exact b
theorem yaz {α : Type} {l : List α} {i : Nat} {d : α} (h : i < l.length) : l.take (i + 1) = l.take i ++ [l.getD i d] := by
  rw [List.take_succ, List.getElem?_eq_getElem h, List.getD_eq_getElem?_getD, List.getElem?_eq_getElem h]; rfl
section
variable {P : Program} {w : World} {K : PySem.W.Frag} {mg : Str → Option Value} {base : Heap} {f : Addr} {fd : FuncData}
noncomputable def ych (K : PySem.W.Frag) : Sp := fun vs H Q _ => ∃ (wa fa ch : Addr) (few root fewer n : Nat) (mv : V) (ds : List Addr) (ls : List (List Nat)), vs = [.ref wa, Vn fewer, .ref ch] ∧ SqT K H wa [.ref fa, Vn few, Vn root, mv] ∧ H ch = some (.lst (ds.map V.ref)) ∧ Tups H ds ls ∧ ls.flatten.Nodup ∧ (∀ x ∈ ls.flatten, x < n) ∧ n ≤ 63 ∧
  ∀ r mk ms H', Same H H' → WhAt H' r fa mk fewer root ms → ms.Pairwise (· < ·) → (∀ x, x ∈ ms ↔ x ∈ ls.flatten) → Q (.ref r) H'
theorem zau : yaj ["wheel", "fewer", "chosen", "field", "few", "root", "marks"] ["wheel", "fewer", "chosen"] (zae yaE) := ⟨rfl, rfl, rfl, by decide +kernel, rfl, by decide +kernel, by decide +kernel⟩
theorem zee (B : Bl mg) (F : Fun K "wheel_of_rings" "wheel_of_rings" yaE f fd) : FnOk P w K mg base CX0 1 f fd ["wheel", "fewer", "chosen"] (ych K) := by
  refine F.ok zau (fun vs H Q E h => ?_) (fun cdv A outer s H vs Q E hr h => ?_)
  · obtain ⟨wa, fa, ch, few, root, fewer, n, mv, ds, ls, rfl, _⟩ := h; rfl
  obtain ⟨wa, fa, ch, few, root, fewer, n, mv, ds, ls, rfl, hw, hc, hT, hnd, hlt, hn, q⟩ := h
  have hfl := zbA n _ hnd hlt
  refine ⟨_, (@yaa _ _ _ _ _ (@yaS _ _ _ _ _ _ (pv 0) (@zaQ _ _ _ _ _ _ rfl (@yaf _ _ _ _ _ (@yae _ _ 3 _ zau.nd rfl (Or.inl rfl) (by first | exact .inl rfl | exact .inr rfl | assumption)) (@yaf _ _ _ _ _ (@yae _ _ 4 _ zau.nd rfl (Or.inl rfl) (by first | exact .inl rfl | exact .inr rfl | assumption)) (@yaf _ _ _ _ _ (@yae _ _ 5 _ zau.nd rfl (Or.inl rfl) (by first | exact .inl rfl | exact .inr rfl | assumption)) (@yaf _ _ _ _ _ (@yae _ _ 6 _ zau.nd rfl (Or.inl rfl) (by first | exact .inl rfl | exact .inr rfl | assumption)) zax (by rfl)) (by rfl)) (by rfl)) (by rfl)) (by rfl) (by rfl)) (by rfl) (by rfl) (by rfl)) (@zad _ _ _ (@zaj _ _ _ _ (@ybb _ _ _ _ _ (@zaa _ _ _ _ _ (pv 3) (@zaa _ _ _ _ _ (pv 1) (@zaa _ _ _ _ _ (pv 5) (@zaa _ _ _ _ _ (@zaY _ _ _ _ _ _ _ _ _ yaL rfl (B "tuple" (by decide)) yao (@zaa _ _ _ _ _ (@yai _ _ _ _ _ _ _ _ _ zb8 rfl (B "sorted" (by decide)) yba (@zaa _ _ _ _ _ (yeB (tg := ["ring", "i"]) (cp := []) (ci := []) (id (α := CSc ["wheel", "fewer", "chosen", "field", "few", "root", "marks"] (zae yaE) ["ring", "i"] [] [] _) ⟨by rfl, by decide +kernel, by decide +kernel, by decide +kernel, by decide +kernel, by rfl, by decide +kernel⟩) rfl (zbv (pv 2)) (fun cl C fp s H => (yae (i := 0) (by show List.Nodup (["ring", "i"] : List Str); decide +kernel) rfl (Or.inl rfl))) (fun _ _ _ _ _ => (ydo (K := K) rfl (pv 0))) (fun cl C fp s H => (yae (i := 1) (by show List.Nodup (["ring", "i"] : List Str); decide +kernel) rfl (Or.inl rfl))) (fun _ _ _ _ _ => (pv 1))) zab (by rfl)) (by decide) (by decide) (by rfl) (by rfl)) zab (by rfl)) (by decide) (by decide) (by rfl) (by rfl)) zab (by rfl)) (by rfl)) (by rfl)) (by rfl)))))), ?_⟩
  refine ⟨_, rfl, wa, _, rfl, hw, rfl, _, _, rfl, _, _, rfl, _, _, rfl, _, _, rfl, rfl, ?_⟩
  refine ⟨_, rfl, _, rfl, _, rfl, ?_⟩
  refine ⟨_, rfl, ch, rfl, ⟨_, SqL.of hc⟩, ?_⟩
  have flt : ∀ i j : Nat, i < ls.length → j ≤ (ls.getD i []).length → ((ls.take i).flatten ++ (ls.getD i []).take j).length ≤ n := fun i j hi hj => by
    have e : ls.flatten = ((ls.take i).flatten ++ ls.getD i []) ++ (ls.drop (i + 1)).flatten := by
      conv => lhs; rw [← List.take_append_drop (i + 1) ls, yaz (d := []) hi]
      rw [List.flatten_append, List.flatten_append, List.flatten_cons, List.flatten_nil, List.append_nil]
    rw [e, List.length_append, List.length_append] at hfl
    rw [List.length_append, List.length_take]; omega
  refine yer (zbd (xs := ds.map V.ref)) (In := fun acc N σ H => tIn _ _ _ acc N σ H) (fun i acc H' => H' = H ∧ acc = (ls.take i).flatten.map Vn) ⟨rfl, rfl⟩ (fun i acc H' _ h => by rw [h.1]; exact SqL.of hc) ?_ ?_
  · rintro i acc x H1 H2 hi ⟨rfl, rfl⟩ ⟨rfl, ez⟩
    rw [List.length_map, hT.1] at hi
    obtain ⟨d, ed, hd⟩ := hT.get hi
    rw [List.getElem?_map, ed] at ez
    cases ez
    rw [yaz (d := []) hi, List.flatten_append, List.flatten_cons, List.flatten_nil, List.append_nil]
    have fl := flt i
    generalize ls.getD i [] = u at hd fl ⊢
    refine ⟨_, rfl, d, rfl, ⟨_, SqT.of hd⟩, ?_⟩
    refine yf2 (za3 (xs := u.map Vn)) (fun j σ acc H' => H' = H2 ∧ acc = ((ls.take i).flatten ++ u.take j).map Vn ∧ ∃ sj, σ = [some (.ref d), sj]) ⟨rfl, by rw [List.take_zero, List.append_nil], none, rfl⟩ (fun j σ acc H' _ h => by rw [h.1]; exact SqT.of hd) ?_ ?_ ?_
    · rintro j σ acc H' hj ⟨_, rfl, _⟩
      rw [List.length_map] at hj
      have := fl j hi (by omega)
      rw [List.length_map]
      exact zak (by omega)
    · rintro j σ acc x Ha Hb hj ⟨rfl, rfl, sj, rfl⟩ ⟨rfl, ez⟩
      rw [List.length_map] at hj
      rw [yaX hj] at ez
      cases ez
      refine ⟨_, rfl, rfl, ?_, _, rfl⟩
      rw [yaz (d := 0) hj, ← List.append_assoc]; simp only [List.map_append]; rfl
    · rintro σ acc Ha ⟨rfl, rfl, _⟩
      rw [List.length_map, List.take_length]
      exact ⟨rfl, rfl⟩
  · rintro acc H1 ⟨rfl, rfl⟩ D hD
    rw [List.length_map, hT.1, List.take_length]
    have s1 := yac hD (.lst (ls.flatten.map Vn))
    refine ⟨D, (ls.flatten.map fun n : Nat => (n : Int)), rfl, SqL.of (by rw [mapI]; exact zac), by rw [List.length_map]; omega, fun l2 ns' hl2 perm asc => ?_⟩
    obtain ⟨ms, ems, hasc, hmm⟩ := zcC perm asc hnd
    rw [ems]
    have s2 := s1.trans (yac hl2 (.lst (ms.map Vn)))
    refine ⟨l2, _, rfl, .inl ⟨SqL.of zac, fun mk hmk => ?_⟩⟩
    have s3 := yac hmk (.tup (ms.map Vn))
    refine ⟨szl 4, fun r hr => ?_⟩
    have s4 := yac hr (.tup [.ref fa, Vn fewer, Vn root, .ref mk])
    exact q r mk ms _ (s2.trans (s3.trans s4)) ⟨zac, s4 _ _ zac⟩ hasc hmm
noncomputable def yfm (K : PySem.W.Frag) : Sp := fun vs H Q _ => ∃ (wa fa mk : Addr) (p m t few root n fewer : Nat) (marks : List Nat), vs = [.ref wa, Vn fewer] ∧ WhAt H wa fa mk few root marks ∧ Fld K H fa p m t ∧ Good p m t ∧ Whl p m t fewer root n [] ∧ n ≤ 63 ∧
  ∀ r mk' H', Same H H' → WhAt H' r fa mk' fewer root (fewL n (p ^ fewer) marks) → Q (.ref r) H'
theorem zdd : yaj ["wheel", "fewer", "chosen"] ["wheel", "fewer"] (zae yb2) := ⟨rfl, rfl, rfl, by decide +kernel, rfl, by decide +kernel, by decide +kernel⟩
theorem zf2 (B : Bl mg) (h_fewer_rings : Has P w K mg base 6 "fewer_rings" ["wheel", "fewer"] (yci K)) (h_wheel_of_rings : Has P w K mg base 1 "wheel_of_rings" ["wheel", "fewer", "chosen"] (ych K)) (F : Fun K "few_of" "few_of" yb2 f fd) : FnOk P w K mg base CX0 7 f fd ["wheel", "fewer"] (yfm K) := by
  refine F.ok zdd (fun vs H Q E h => ?_) (fun cdv A outer s H vs Q E hr h => ?_)
  · obtain ⟨wa, fa, mk, p, m, t, few, root, n, fewer, marks, rfl, _⟩ := h; rfl
  obtain ⟨wa, fa, mk, p, m, t, few, root, n, fewer, marks, rfl, hW, hF, G, W, hn, q⟩ := h
  have hf6 : fewer ≤ 6 := Nat.le_trans (Nat.le_of_dvd (by have := G.hm; omega) (Nat.dvd_of_mod_eq_zero W.fewm)) (m_le G.hp G.hq)
  refine ⟨_, (@yaa _ _ _ _ _ (@ybg _ 2 _ _ _ _ _ _ _ _ _ ["ring"] ["wheel"] [0] _ _ _ _ zdd.nd rfl (Or.inl rfl) (id (α := CSc ["wheel", "fewer", "chosen"] (zae yb2) ["ring"] ["wheel"] [0] _) ⟨by rfl, by decide +kernel, by decide +kernel, by decide +kernel, by decide +kernel, by rfl, by decide +kernel⟩) rfl (@ycA _ _ _ _ (@yad _ _ _ _ _ _ _ _ _ _ _ h_fewer_rings hr (by decide) rfl (@zaa _ _ _ _ _ (pv 0) (@zaa _ _ _ _ _ (pv 1) zab (by rfl)) (by rfl)) (by decide) (by rfl) (by rfl))) (fun cl C fp s H => (@yae _ _ 0 _ (by show List.Nodup (["ring", "wheel"] : List Str); decide +kernel) rfl (Or.inl rfl) (by first | exact .inl rfl | exact .inr rfl | assumption))) (fun _ _ _ _ _ => (@ybz _ _ _ (@zaH _ _ _ (@yai _ _ _ _ _ _ _ _ _ (zec (K := K) rfl rfl) rfl (B "any" (by decide)) zcc (@zaa _ _ _ _ _ (@zaV _ _ _ _ _ _ _ ["i"] ["wheel"] [1] _ _ _ _ (CSc.of_b (by kernel_rfl)) rfl (@ydo _ K _ _ _ rfl (pv 0)) (fun cl C fp s H => (@yae _ _ 0 _ (by show List.Nodup (["i", "wheel"] : List Str); decide +kernel) rfl (Or.inl rfl) (by first | exact .inl rfl | exact .inr rfl | assumption))) (fun _ _ _ _ _ => zaE) (fun _ _ _ _ _ => (@ybP _ _ _ _ _ _ _ _ (ybA (K := K) rfl) (pv 0) (@zao _ _ _ _ _ _ _ (zbH (K := K) rfl) (pv 1) yab (fun _ _ => rfl)) (by with_unfolding_all rfl))) (by intro _; rfl)) zab (by rfl)) (by decide) (by decide) (by rfl) (by rfl)) (by intro _; rfl)))) (fun _ _ _ _ _ => (pv 0)) (by rfl) (by intro _; rfl) (by first | exact .inl rfl | exact .inr rfl | assumption)) (@zad _ _ _ (@zaj _ _ _ _ (@yad _ _ _ _ _ _ _ _ _ _ _ h_wheel_of_rings hr (by decide) rfl (@zaa _ _ _ _ _ (pv 0) (@zaa _ _ _ _ _ (pv 1) (@zaa _ _ _ _ _ (pv 2) zab (by rfl)) (by rfl)) (by rfl)) (by decide) (by rfl) (by rfl))))), ?_⟩
  refine ⟨_, rfl, _, rfl, wa, fa, p, m, t, few, root, n, fewer, .ref mk, rfl, SqT.of hW.w, hF, G, W.r0, W.rq, W.ord, hn, hf6, fun r ds H1 s1 er hT => ?_⟩
  refine ⟨r, rfl, ⟨_, SqT.of er⟩, ?_⟩
  have hrl := zbQ n (p ^ fewer) n
  have hnd := yfN G W fun l => (l.map fun i => decide (i ∈ marks)).any id
  have hmm := yfo G W fun l => (l.map fun i => decide (i ∈ marks)).any id
  have hrn : ∀ l ∈ yaP n (p ^ fewer) n, l.length ≤ 63 := fun l hl => by
    obtain ⟨s, _, rfl⟩ := List.mem_map.mp hl
    have := List.length_filter_le (yfc n (p ^ fewer) s) (List.range n)
    rw [List.length_range] at this
    exact Nat.le_trans this hn
  generalize yaP n (p ^ fewer) n = R at hT hrl hnd hmm hrn
  refine yar (za3 (xs := ds.map V.ref)) (fun i acc H' => Same H1 H' ∧ ∃ es : List Addr, acc = es.map V.ref ∧ Tups H' es ((R.take i).filter fun l => (l.map fun i => decide (i ∈ marks)).any id)) ⟨Same.refl _, [], rfl, rfl, fun i d e => by simp at e⟩ (fun i acc H' _ h => SqT.of (h.1 _ _ er)) ?_ ?_ ?_
  · rintro i acc H' hi ⟨_, es, rfl, h2⟩
    have h3 := List.length_filter_le (fun l : List Nat => (l.map fun i => decide (i ∈ marks)).any id) (R.take i)
    rw [List.length_take] at h3
    rw [List.length_map, h2.1]; exact zak (by omega)
  · rintro i acc x H2o H2 hi ⟨s2, es, rfl, h2⟩ ⟨rfl, ez⟩
    rw [List.length_map, hT.1] at hi
    obtain ⟨d, ed, hd⟩ := hT.get hi
    rw [List.getElem?_map, ed] at ez
    cases ez
    have hul := hrn (R.getD i []) (by simp [List.getD, hi])
    rw [yaz (d := []) hi, List.filter_append]
    generalize R.getD i [] = u at hd hul ⊢
    have hd2 := s2 _ _ hd
    have hW2 := (hW.same s1).same s2
    dsimp only [yaC]
    refine ⟨_, rfl, d, rfl, ⟨_, SqT.of hd2⟩, ?_⟩
    refine yar (za3 (xs := u.map Vn)) (fun j acc H' => H' = H2 ∧ acc = ((u.take j).map fun i => decide (i ∈ marks)).map V.bl) ⟨rfl, rfl⟩ (fun j acc H' _ h => by rw [h.1]; exact SqT.of hd2) ?_ ?_ ?_
    · rintro j acc H' hj ⟨_, rfl⟩
      rw [List.length_map, List.length_map, List.length_take]; exact zak (by omega)
    · rintro j acc x Ha Hb hj ⟨rfl, rfl⟩ ⟨rfl, ez⟩
      rw [List.length_map] at hj
      rw [yaX hj] at ez
      cases ez
      refine ⟨_, rfl, _, rfl, wa, _, _, .ref mk, rfl, rfl, SqT.of hW2.w, rfl, mk, _, rfl, .inr (SqT.of hW2.k), rfl, zbb marks, ?_⟩
      rw [zbu, yaz (d := 0) hj, List.map_append, List.map_append]
      exact ⟨rfl, rfl⟩
    · rw [List.length_map, List.take_length]
      rintro acc Ha ⟨rfl, rfl⟩ D hD
      have s3 := yac hD (.lst ((u.map fun i => decide (i ∈ marks)).map V.bl))
      refine ⟨D, u.map fun i => decide (i ∈ marks), rfl, SqL.of zac, ?_⟩
      refine ⟨_, rfl, ?_⟩
      refine ite2 (fun c => ?_) (fun c => ?_)
      · refine ⟨_, rfl, s2.trans s3, es ++ [d], by rw [List.map_append]; rfl, ?_⟩
        rw [List.filter_cons, if_pos c, List.filter_nil]
        exact (h2.same s3).snoc (s3 _ _ hd2)
      · refine ⟨s2.trans s3, es, rfl, ?_⟩
        rw [List.filter_cons, if_neg c, List.filter_nil, List.append_nil]
        exact h2.same s3
  · rw [List.length_map, hT.1, List.take_length]
    rintro acc H2 ⟨s2, es, rfl, h2⟩ D hD
    have s3 := yac hD (.lst (es.map V.ref))
    have s4 := s1.trans (s2.trans s3)
    refine ⟨_, rfl, _, rfl, _, rfl, wa, fa, D, few, root, fewer, n, .ref mk, es, _, rfl, SqT.of (s4 _ _ hW.w), zac, h2.same s3, hnd, fun x hx => ((hmm x).mp hx).1, hn, fun r2 mk2 ms H5 s5 hW5 hasc hms => ?_⟩
    have e : ms = fewL n (p ^ fewer) marks := ybK hasc (yei _ _ _) fun x => by
      rw [hms, hmm]
      unfold fewL
      rw [List.mem_filter, List.mem_range, List.any_map]; rfl
    rw [e] at hW5
    exact q r2 mk2 _ (s4.trans s5) hW5
noncomputable def yfi (K : PySem.W.Frag) : Sp := fun vs H Q _ => ∃ (wa fa mk : Addr) (p m t few root n fewer : Nat) (marks : List Nat), vs = [.ref wa, Vn fewer] ∧ WhAt H wa fa mk few root marks ∧ Fld K H fa p m t ∧ Good p m t ∧ Whl p m t fewer root n [] ∧ n ≤ 63 ∧
  ∀ r mk' H', Same H H' → WhAt H' r fa mk' fewer root (traL n (p ^ fewer) marks) → Q (.ref r) H'
theorem ybY : yaj ["wheel", "fewer", "chosen"] ["wheel", "fewer"] (zae zbm) := ⟨rfl, rfl, rfl, by decide +kernel, rfl, by decide +kernel, by decide +kernel⟩
theorem yfU (B : Bl mg) (h_fewer_rings : Has P w K mg base 6 "fewer_rings" ["wheel", "fewer"] (yci K)) (h_wheel_of_rings : Has P w K mg base 1 "wheel_of_rings" ["wheel", "fewer", "chosen"] (ych K)) (F : Fun K "traced_of" "traced_of" zbm f fd) : FnOk P w K mg base CX0 7 f fd ["wheel", "fewer"] (yfi K) := by
  refine F.ok ybY (fun vs H Q E h => ?_) (fun cdv A outer s H vs Q E hr h => ?_)
  · obtain ⟨wa, fa, mk, p, m, t, few, root, n, fewer, marks, rfl, _⟩ := h; rfl
  obtain ⟨wa, fa, mk, p, m, t, few, root, n, fewer, marks, rfl, hW, hF, G, W, hn, q⟩ := h
  have hf6 : fewer ≤ 6 := Nat.le_trans (Nat.le_of_dvd (by have := G.hm; omega) (Nat.dvd_of_mod_eq_zero W.fewm)) (m_le G.hp G.hq)
  refine ⟨_, (@yaa _ _ _ _ _ (@ybg _ 2 _ _ _ _ _ _ _ _ _ ["ring"] ["wheel"] [0] _ _ _ _ ybY.nd rfl (Or.inl rfl) (id (α := CSc ["wheel", "fewer", "chosen"] (zae zbm) ["ring"] ["wheel"] [0] _) ⟨by rfl, by decide +kernel, by decide +kernel, by decide +kernel, by decide +kernel, by rfl, by decide +kernel⟩) rfl (@ycA _ _ _ _ (@yad _ _ _ _ _ _ _ _ _ _ _ h_fewer_rings hr (by decide) rfl (@zaa _ _ _ _ _ (pv 0) (@zaa _ _ _ _ _ (pv 1) zab (by rfl)) (by rfl)) (by decide) (by rfl) (by rfl))) (fun cl C fp s H => (@yae _ _ 0 _ (by show List.Nodup (["ring", "wheel"] : List Str); decide +kernel) rfl (Or.inl rfl) (by first | exact .inl rfl | exact .inr rfl | assumption))) (fun _ _ _ _ _ => (@ybz _ _ _ (@zaH _ _ _ (@yai _ _ _ _ _ _ _ _ _ (zen (K := K) rfl rfl) rfl (B "all" (by decide)) PyProof.Rows.boot_all (@zaa _ _ _ _ _ (@zaV _ _ _ _ _ _ _ ["i"] ["wheel"] [1] _ _ _ _ (CSc.of_b (by kernel_rfl)) rfl (@ydo _ K _ _ _ rfl (pv 0)) (fun cl C fp s H => (@yae _ _ 0 _ (by show List.Nodup (["i", "wheel"] : List Str); decide +kernel) rfl (Or.inl rfl) (by first | exact .inl rfl | exact .inr rfl | assumption))) (fun _ _ _ _ _ => zaE) (fun _ _ _ _ _ => (@ybP _ _ _ _ _ _ _ _ (ybA (K := K) rfl) (pv 0) (@zao _ _ _ _ _ _ _ (zbH (K := K) rfl) (pv 1) yab (fun _ _ => rfl)) (by with_unfolding_all rfl))) (by intro _; rfl)) zab (by rfl)) (by decide) (by decide) (by rfl) (by rfl)) (by intro _; rfl)))) (fun _ _ _ _ _ => (pv 0)) (by rfl) (by intro _; rfl) (by first | exact .inl rfl | exact .inr rfl | assumption)) (@zad _ _ _ (@zaj _ _ _ _ (@yad _ _ _ _ _ _ _ _ _ _ _ h_wheel_of_rings hr (by decide) rfl (@zaa _ _ _ _ _ (pv 0) (@zaa _ _ _ _ _ (pv 1) (@zaa _ _ _ _ _ (pv 2) zab (by rfl)) (by rfl)) (by rfl)) (by decide) (by rfl) (by rfl))))), ?_⟩
  refine ⟨_, rfl, _, rfl, wa, fa, p, m, t, few, root, n, fewer, .ref mk, rfl, SqT.of hW.w, hF, G, W.r0, W.rq, W.ord, hn, hf6, fun r ds H1 s1 er hT => ?_⟩
  refine ⟨r, rfl, ⟨_, SqT.of er⟩, ?_⟩
  have hrl := zbQ n (p ^ fewer) n
  have hnd := yfN G W fun l => (l.map fun i => decide (i ∈ marks)).all id
  have hmm := yfo G W fun l => (l.map fun i => decide (i ∈ marks)).all id
  have hrn : ∀ l ∈ yaP n (p ^ fewer) n, l.length ≤ 63 := fun l hl => by
    obtain ⟨s, _, rfl⟩ := List.mem_map.mp hl
    have := List.length_filter_le (yfc n (p ^ fewer) s) (List.range n)
    rw [List.length_range] at this
    exact Nat.le_trans this hn
  generalize yaP n (p ^ fewer) n = R at hT hrl hnd hmm hrn
  refine yar (za3 (xs := ds.map V.ref)) (fun i acc H' => Same H1 H' ∧ ∃ es : List Addr, acc = es.map V.ref ∧ Tups H' es ((R.take i).filter fun l => (l.map fun i => decide (i ∈ marks)).all id)) ⟨Same.refl _, [], rfl, rfl, fun i d e => by simp at e⟩ (fun i acc H' _ h => SqT.of (h.1 _ _ er)) ?_ ?_ ?_
  · rintro i acc H' hi ⟨_, es, rfl, h2⟩
    have h3 := List.length_filter_le (fun l : List Nat => (l.map fun i => decide (i ∈ marks)).all id) (R.take i)
    rw [List.length_take] at h3
    rw [List.length_map, h2.1]; exact zak (by omega)
  · rintro i acc x H2o H2 hi ⟨s2, es, rfl, h2⟩ ⟨rfl, ez⟩
    rw [List.length_map, hT.1] at hi
    obtain ⟨d, ed, hd⟩ := hT.get hi
    rw [List.getElem?_map, ed] at ez
    cases ez
    have hul := hrn (R.getD i []) (by simp [List.getD, hi])
    rw [yaz (d := []) hi, List.filter_append]
    generalize R.getD i [] = u at hd hul ⊢
    have hd2 := s2 _ _ hd
    have hW2 := (hW.same s1).same s2
    dsimp only [yaC]
    refine ⟨_, rfl, d, rfl, ⟨_, SqT.of hd2⟩, ?_⟩
    refine yar (za3 (xs := u.map Vn)) (fun j acc H' => H' = H2 ∧ acc = ((u.take j).map fun i => decide (i ∈ marks)).map V.bl) ⟨rfl, rfl⟩ (fun j acc H' _ h => by rw [h.1]; exact SqT.of hd2) ?_ ?_ ?_
    · rintro j acc H' hj ⟨_, rfl⟩
      rw [List.length_map, List.length_map, List.length_take]; exact zak (by omega)
    · rintro j acc x Ha Hb hj ⟨rfl, rfl⟩ ⟨rfl, ez⟩
      rw [List.length_map] at hj
      rw [yaX hj] at ez
      cases ez
      refine ⟨_, rfl, _, rfl, wa, _, _, .ref mk, rfl, rfl, SqT.of hW2.w, rfl, mk, _, rfl, .inr (SqT.of hW2.k), rfl, zbb marks, ?_⟩
      rw [zbu, yaz (d := 0) hj, List.map_append, List.map_append]
      exact ⟨rfl, rfl⟩
    · rw [List.length_map, List.take_length]
      rintro acc Ha ⟨rfl, rfl⟩ D hD
      have s3 := yac hD (.lst ((u.map fun i => decide (i ∈ marks)).map V.bl))
      refine ⟨D, u.map fun i => decide (i ∈ marks), rfl, SqL.of zac, ?_⟩
      refine ⟨_, rfl, ?_⟩
      refine ite2 (fun c => ?_) (fun c => ?_)
      · refine ⟨_, rfl, s2.trans s3, es ++ [d], by rw [List.map_append]; rfl, ?_⟩
        rw [List.filter_cons, if_pos c, List.filter_nil]
        exact (h2.same s3).snoc (s3 _ _ hd2)
      · refine ⟨s2.trans s3, es, rfl, ?_⟩
        rw [List.filter_cons, if_neg c, List.filter_nil, List.append_nil]
        exact h2.same s3
  · rw [List.length_map, hT.1, List.take_length]
    rintro acc H2 ⟨s2, es, rfl, h2⟩ D hD
    have s3 := yac hD (.lst (es.map V.ref))
    have s4 := s1.trans (s2.trans s3)
    refine ⟨_, rfl, _, rfl, _, rfl, wa, fa, D, few, root, fewer, n, .ref mk, es, _, rfl, SqT.of (s4 _ _ hW.w), zac, h2.same s3, hnd, fun x hx => ((hmm x).mp hx).1, hn, fun r2 mk2 ms H5 s5 hW5 hasc hms => ?_⟩
    have e : ms = traL n (p ^ fewer) marks := ybK hasc (yeh _ _ _) fun x => by
      rw [hms, hmm]
      unfold traL
      rw [List.mem_filter, List.mem_range, List.all_map]; rfl
    rw [e] at hW5
    exact q r2 mk2 _ (s4.trans s5) hW5
end
end My
end
section
-- text: Q66a
set_option Elab.async false
set_option linter.all false
set_option maxRecDepth 100000
set_option maxHeartbeats 4000000
namespace My
open PySem L2 Dg
theorem yd0 : (menu.all fun c => (List.range c.1).all fun k => decide (k < 2) || decide (c.1 % k ≠ 0)) = true := by decide +kernel
theorem Good.prime {p m t low : Nat} (G : Good p m t) (h2 : 2 ≤ low) (h : low < p) : p % low ≠ 0 := by
  have h1 := List.all_eq_true.mp yd0 _ G.mem
  have h3 := List.all_eq_true.mp h1 low (List.mem_range.mpr h)
  rw [Bool.or_eq_true] at h3
  rcases h3 with h3 | h3
  · have := of_decide_eq_true h3; omega
  · exact of_decide_eq_true h3
section
variable {P : Program} {w : World} {K : PySem.W.Frag} {mg : Str → Option Value} {base : Heap} {f : Addr} {fd : FuncData}
noncomputable def ycS : Sp := fun vs H Q _ => ∃ i : Int, vs = [.int i] ∧ Q (.bl true) H
theorem zdx : yaj ["thing"] ["thing"] (zae ybS) := ⟨rfl, rfl, rfl, by decide +kernel, rfl, by decide +kernel, by decide +kernel⟩
theorem zfE (B : Bl mg) (F : Fun K "is_whole" "is_whole" ybS f fd) : FnOk P w K mg base CX0 1 f fd ["thing"] ycS := by
  refine F.ok zdx (fun vs H Q E h => ?_) (fun cdv A outer s H vs Q E hr h => ?_)
  · obtain ⟨i, rfl, _⟩ := h; rfl
  obtain ⟨i, rfl, q⟩ := h
  refine ⟨_, (@zad _ _ _ (@zaj _ _ _ _ (@zdO _ _ _ _ _ _ _ (@yai _ _ _ _ _ _ _ _ _ zeA rfl (B "isinstance" (by decide)) PyProof.Rows.boot_isinstance (@zaa _ _ _ _ _ (pv 0) (@zaa _ _ _ _ _ (@zbf _ _ _ _ _ rfl (B "int" (by decide)) yca (id (α := RelV (.ty "int") (.type "int")) rfl) (by decide) (by decide)) zab (by rfl)) (by rfl)) (by decide) (by decide) (by rfl) (by rfl)) (@zeg _ _ _ _ _ (@zfg _ _ _ _ (@yai _ _ _ _ _ _ _ _ _ ydD rfl (B "isinstance" (by decide)) PyProof.Rows.boot_isinstance (@zaa _ _ _ _ _ (pv 0) (@zaa _ _ _ _ _ (@zbf _ _ _ _ _ rfl (B "bool" (by decide)) zbZ (id (α := RelV (.ty "bool") (.type "bool")) rfl) (by decide) (by decide)) zab (by rfl)) (by rfl)) (by decide) (by decide) (by rfl) (by rfl))))))), ?_⟩
  refine ⟨_, rfl, _, "int", rfl, rfl, true, rfl, ?_⟩
  refine ite2 (fun _ => ?_) (fun c => absurd rfl c)
  refine ⟨_, rfl, _, "int", rfl, rfl, ?_⟩
  exact ⟨_, rfl, q⟩
noncomputable def yey (K : PySem.W.Frag) : Sp := fun vs H Q _ => ∃ (a : Addr) (ns : List Nat), vs = [.ref a, Vn ns.length] ∧ SqT K H a (ns.map Vn) ∧ ns.length ≤ 10 ∧ ∀ H', Same H H' → Q (.bl true) H'
theorem yc5 : yaj ["thing", "many"] ["thing", "many"] (zae zbj) := ⟨rfl, rfl, rfl, by decide +kernel, rfl, by decide +kernel, by decide +kernel⟩
theorem zfu (B : Bl mg) (h_is_whole : Has P w K mg base 1 "is_whole" ["thing"] ycS) (F : Fun K "is_wholes" "is_wholes" zbj f fd) : FnOk P w K mg base CX0 2 f fd ["thing", "many"] (yey K) := by
  refine F.ok yc5 (fun vs H Q E h => ?_) (fun cdv A outer s H vs Q E hr h => ?_)
  · obtain ⟨a, ns, rfl, _⟩ := h; rfl
  obtain ⟨a, ns, rfl, ha, hl, q⟩ := h
  refine ⟨_, (@yaa _ _ _ _ _ (@zaC _ _ _ _ _ _ _ _ (@PW.pt _ _ _ (@zbE _ _ _ _ _ _ _ (@zaP _ _ _ _ (@zaH _ _ _ (@yai _ _ _ _ _ _ _ _ _ ybv rfl (B "isinstance" (by decide)) PyProof.Rows.boot_isinstance (@zaa _ _ _ _ _ (pv 0) (@zaa _ _ _ _ _ (@zbf _ _ _ _ _ rfl (B "tuple" (by decide)) yao (id (α := RelV (.ty "tuple") (.type "tuple")) rfl) (by decide) (by decide)) zab (by rfl)) (by rfl)) (by decide) (by decide) (by rfl) (by rfl)) (by intro _; rfl))) (@za1 _ _ _ _ (@zai _ _ _ _ _ _ _ _ zcN (@yai _ _ _ _ _ _ _ _ _ zar rfl (B "len" (by decide)) PySem.boot_len (@zaa _ _ _ _ _ (pv 0) zab (by rfl)) (by decide) (by decide) (by rfl) (by rfl)) (pv 1) (zam _))))) (@zad _ _ _ (@zaj _ _ _ _ yaT)) yam) (@zad _ _ _ (@zaj _ _ _ _ (@yai _ _ _ _ _ _ _ _ _ (zbB rfl) rfl (B "all" (by decide)) PyProof.Rows.boot_all (@zaa _ _ _ _ _ (@zaV _ _ _ _ _ _ _ ["part"] [] [] _ _ _ _ (id (α := CSc ["thing", "many"] (zae zbj) ["part"] [] [] _) ⟨by rfl, by decide +kernel, by decide +kernel, by decide +kernel, by decide +kernel, by rfl, by decide +kernel⟩) rfl (@ycA _ _ _ _ (pv 0)) (fun cl C fp s H => (@yae _ _ 0 _ (by show List.Nodup (["part"] : List Str); decide +kernel) rfl (Or.inl rfl) (by first | exact .inl rfl | exact .inr rfl | assumption))) (fun _ _ _ _ _ => zaE) (fun _ _ _ _ _ => (@yad _ _ _ _ _ _ _ _ _ _ _ h_is_whole hr (by decide) rfl (@zaa _ _ _ _ _ (pv 0) zab (by rfl)) (by decide) (by rfl) (by rfl))) (by intro _; rfl)) zab (by rfl)) (by decide) (by decide) (by rfl) (by rfl))))), ?_⟩
  refine ⟨_, rfl, _, "tuple", rfl, .inr ⟨rfl, _, ha⟩, true, rfl, ?_⟩
  refine ite2 (fun c => absurd c (by decide)) (fun _ => ?_)
  refine ⟨_, rfl, a, _, rfl, .inr ha, _, rfl, rfl, false, ?_, ?_⟩
  · show V.bl (!decide (V.int (((ns.map Vn).length : Nat) : Int) = Vn ns.length)) = V.bl false
    rw [List.length_map, decide_eq_true rfl]; rfl
  refine ite2 (fun c => absurd c (by decide)) (fun _ => ?_)
  dsimp only [ycr]
  refine ⟨_, rfl, a, rfl, ⟨_, ha⟩, ?_⟩
  refine yar (za3 (xs := ns.map Vn)) (fun k acc H' => H' = H ∧ acc = (List.replicate k true).map V.bl) ⟨rfl, rfl⟩ (fun k acc H' _ h => by rw [h.1]; exact ha) ?_ ?_ ?_
  · rintro k acc H' hk ⟨_, rfl⟩
    rw [List.length_map] at hk
    rw [List.length_map, List.length_replicate]; exact zak (by omega)
  · rintro k acc z Ha Hb hk ⟨rfl, rfl⟩ ⟨rfl, ez⟩
    rw [List.length_map] at hk
    rw [yaX hk] at ez
    cases ez
    refine ⟨_, rfl, _, rfl, rfl, ?_⟩
    rw [List.replicate_succ', List.map_append]; rfl
  · rintro acc Ha ⟨rfl, rfl⟩ D hD
    refine ⟨D, _, rfl, SqL.of zac, ?_⟩
    show Q (V.bl (List.all _ id)) _
    rw [show (List.replicate (ns.map Vn).length true).all id = true by simp]
    exact q _ (yac hD _)
noncomputable def zcs : Sp := fun vs H Q _ => ∃ (p : Nat), vs = [Vn p] ∧ 2 ≤ p ∧ p ≤ 64 ∧ (∀ low, 2 ≤ low → low < p → p % low ≠ 0) ∧ Q (.bl true) H
theorem yb9 : yaj ["number", "low"] ["number"] (zae ybN) := ⟨rfl, rfl, rfl, by decide +kernel, rfl, by decide +kernel, by decide +kernel⟩
theorem zd3 (B : Bl mg) (F : Fun K "is_prime" "is_prime" ybN f fd) : FnOk P w K mg base CX0 1 f fd ["number"] zcs := by
  refine F.ok yb9 (fun vs H Q E h => ?_) (fun cdv A outer s H vs Q E hr h => ?_)
  · obtain ⟨p, rfl, _⟩ := h; rfl
  obtain ⟨p, rfl, h2, h64, hpr, q⟩ := h
  refine ⟨_, (@yaa _ _ _ _ _ (@zaG _ _ _ _ _ _ _ _ PassesOwn.never rfl (@yaW _ _ _ _ _ _ _ rfl (B "range" (by decide)) (@zaa _ _ _ _ _ yab (@zaa _ _ _ _ _ (pv 0) zab (by rfl)) (by rfl)) (by rfl) (by rfl)) (@yae _ _ 1 _ yb9.nd rfl (Or.inl rfl) (by first | exact .inl rfl | exact .inr rfl | assumption)) (@zad _ _ _ (@zaC _ _ _ _ _ _ _ _ (@zai _ _ _ _ _ _ _ _ zbx (@zah _ _ _ _ _ _ _ _ zat (pv 0) (pv 1)) yab (zam _)) (@zad _ _ _ (@zaj _ _ _ _ yaT)) yam)) (by intro _; rfl)) (@zad _ _ _ (@zaj _ _ _ _ yaT))), ?_⟩
  refine ⟨_, rfl, 2, (p : Int), rfl, by omega, ?_⟩
  refine yaw (lo := 2) (fun i σ' H' => H' = H ∧ ∃ v1, σ' = [some (Vn p), v1]) ⟨rfl, _, rfl⟩ ?_ ?_
  · rintro i σ' H' hi ⟨rfl, v1, rfl⟩
    have hl : 2 + i < p := by omega
    rw [show V.int (2 + (i : Int)) = Vn (2 + i) from ycE (by omega)]
    dsimp only [yaC]
    refine ⟨_, rfl, _, rfl, _, _, rfl, rfl, by show (0 : Int) < ((2 + i : Nat) : Int); omega, rfl, false, ?_, ?_⟩
    · show V.bl (decide (V.int ((p : Int) % ((2 + i : Nat) : Int)) = V.int 0)) = V.bl false
      rw [decide_eq_false (fun e => hpr _ (by omega) hl (by have := V.int.inj e; rw [← Int.natCast_emod] at this; omega))]
    refine ite2 (fun c => absurd c (by decide)) (fun _ => ?_)
    exact ⟨rfl, _, rfl⟩
  · rintro σ' H' ⟨rfl, v1, rfl⟩
    exact q
noncomputable def yc9 (K : PySem.W.Frag) : Sp := fun vs H Q _ => ∃ (a : Addr) (p m t : Nat), vs = [.ref a] ∧ Fld K H a p m t ∧ Good p m t ∧ Q (.bl true) H
theorem zaI : yaj ["field", "others", "one"] ["field"] (zae zaM) := ⟨rfl, rfl, rfl, by decide +kernel, rfl, by decide +kernel, by decide +kernel⟩
theorem yew (B : Bl mg) (h_many_things : Has P w K mg base 2 "many_things" ["field"] (zcU K)) (h_times_itself : Has P w K mg base 4 "times_itself" ["field", "one", "many"] (zc2 K)) (F : Fun K "all_come_to_one" "all_come_to_one" zaM f fd) : FnOk P w K mg base CX0 5 f fd ["field"] (yc9 K) := by
  refine F.ok zaI (fun vs H Q E h => ?_) (fun cdv A outer s H vs Q E hr h => ?_)
  · obtain ⟨a, p, m, t, rfl, _⟩ := h; rfl
  obtain ⟨a, p, m, t, rfl, hF, G, q⟩ := h
  have hp := G.hp
  have hm := G.hm
  have hQ := ybE hp hm
  have hq := G.hq
  refine ⟨_, (@yaa _ _ _ _ _ (@yag _ _ 1 _ _ _ _ zaI.nd rfl (Or.inl rfl) (@zah _ _ _ _ _ _ _ _ zbX (@yad _ _ _ _ _ _ _ _ _ _ _ h_many_things hr (by decide) rfl (@zaa _ _ _ _ _ (pv 0) zab (by rfl)) (by decide) (by rfl) (by rfl)) yab) (by rfl) (by first | exact .inl rfl | exact .inr rfl | assumption)) (@yaa _ _ _ _ _ (@zaG _ _ _ _ _ _ _ _ PassesOwn.never rfl (@yaW _ _ _ _ _ _ _ rfl (B "range" (by decide)) (@zaa _ _ _ _ _ yab (@zaa _ _ _ _ _ (@zah _ _ _ _ _ _ _ _ yay (pv 1) yab) zab (by rfl)) (by rfl)) (by rfl) (by rfl)) (@yae _ _ 2 _ zaI.nd rfl (Or.inl rfl) (by first | exact .inl rfl | exact .inr rfl | assumption)) (@zad _ _ _ (@zaC _ _ _ _ _ _ _ _ (@zai _ _ _ _ _ _ _ _ zcN (@yad _ _ _ _ _ _ _ _ _ _ _ h_times_itself hr (by decide) rfl (@zaa _ _ _ _ _ (pv 0) (@zaa _ _ _ _ _ (pv 2) (@zaa _ _ _ _ _ (pv 1) zab (by rfl)) (by rfl)) (by rfl)) (by decide) (by rfl) (by rfl)) yab (zam _)) (@zad _ _ _ (@zaj _ _ _ _ yaT)) yam)) (by intro _; rfl)) (@zad _ _ _ (@zaj _ _ _ _ yaT)))), ?_⟩
  refine ⟨_, rfl, a, p, m, t, rfl, hF, p_le hp hm G.hq, by have := m_le hp G.hq; omega, _, _, rfl, rfl, ?_⟩
  dsimp only [yaC]
  rw [show ((p ^ m : Nat) : Int) - 1 = ((p ^ m - 1 : Nat) : Int) by omega]
  refine ⟨_, rfl, _, _, rfl, rfl, ?_⟩
  refine ⟨1, ((p ^ m : Nat) : Int), by show [V.int 1, V.int (((p ^ m - 1 : Nat) : Int) + 1)] = _; rw [show ((p ^ m - 1 : Nat) : Int) + 1 = ((p ^ m : Nat) : Int) by omega], by omega, ?_⟩
  refine yaw (lo := 1) (fun i σ' H' => H' = H ∧ ∃ v2, σ' = [some (.ref a), some (Vn (p ^ m - 1)), v2]) ⟨rfl, _, rfl⟩ ?_ ?_
  · rintro i σ' H' hi ⟨rfl, v1, rfl⟩
    have hl : 1 + i < p ^ m := by omega
    rw [show V.int (1 + (i : Int)) = Vn (1 + i) from ycE (by omega)]
    dsimp only [yaC]
    refine ⟨_, rfl, _, rfl, _, rfl, a, p, m, t, 1 + i, p ^ m - 1, rfl, hF, G, hl, ?_⟩
    rw [G.fermat (by omega) hl]
    refine ⟨rfl, false, rfl, ?_⟩
    refine ite2 (fun c => absurd c (by decide)) (fun _ => ?_)
    exact ⟨rfl, _, rfl⟩
  · rintro σ' H' ⟨rfl, v1, rfl⟩
    exact q
end
end My
end
section
-- text: Q66s
set_option Elab.async false
set_option linter.all false
set_option maxRecDepth 100000
set_option maxHeartbeats 4000000
namespace My
open PySem L2 Dg
noncomputable def Eqi (K : PySem.W.Frag) (H : Hp) : Nat → V → V → Prop
  | 0, _, _ => False
  | n + 1, v, w => (∃ i : Int, v = .int i ∧ w = .int i) ∨ ∃ (a b : Addr) (xs ys : List V), v = .ref a ∧ w = .ref b ∧ SqT K H a xs ∧ SqT K H b ys ∧ xs.length = ys.length ∧ xs.length ≤ 500 ∧ ∀ (i : Nat) x y, xs[i]? = some x → ys[i]? = some y → Eqi K H n x y
theorem Eqi.same {K : PySem.W.Frag} {H H' : Hp} (s : Same H H') : ∀ {n : Nat} {x y : V}, Eqi K H n x y → Eqi K H' n x y
  | 0, _, _, h => h
  | n + 1, x, y, h => by
    rcases h with h | ⟨a, b, xs, ys, e1, e2, ha, hb, hl, hl2, hx⟩
    · exact .inl h
    · exact .inr ⟨a, b, xs, ys, e1, e2, Same.tup s ha, Same.tup s hb, hl, hl2, fun i u v eu ev => Eqi.same s (hx i u v eu ev)⟩
theorem zep {K : PySem.W.Frag} {H : Hp} {a b : Addr} {xs : List Nat} (ha : SqT K H a (xs.map Vn)) (hb : SqT K H b (xs.map Vn)) (hl : xs.length ≤ 500) : Eqi K H 2 (.ref a) (.ref b) := by
  refine .inr ⟨a, b, _, _, rfl, rfl, ha, hb, rfl, by rw [List.length_map]; exact hl, fun i x y ex ey => ?_⟩
  rw [ex] at ey
  cases ey
  rw [List.getElem?_map] at ex
  cases e : xs[i]? with
  | none => rw [e] at ex; cases ex
  | some v => rw [e] at ex; cases ex; exact .inl ⟨_, rfl, rfl⟩
theorem yeE {K : PySem.W.Frag} {H : Hp} {a b fa mk mk' : Addr} {p m t few root : Nat} {ms : List Nat} (hF : Fld K H fa p m t) (ha : WhAt H a fa mk few root ms) (hb : WhAt H b fa mk' few root ms) (hl : ms.length ≤ 500) : Eqi K H 3 (.ref a) (.ref b) := by
  have hf : SqT K H fa ([p, m, t].map Vn) := hF
  refine .inr ⟨a, b, _, _, rfl, rfl, SqT.of ha.w, SqT.of hb.w, rfl, (show 4 ≤ 500 by omega), fun i x y ex ey => ?_⟩
  rcases i with _ | _ | _ | _ | i
  · cases ex; cases ey; exact zep hf hf (show 3 ≤ 500 by omega)
  · cases ex; cases ey; exact .inl ⟨_, rfl, rfl⟩
  · cases ex; cases ey; exact .inl ⟨_, rfl, rfl⟩
  · cases ex; cases ey; exact zep (SqT.of ha.k) (SqT.of hb.k) hl
  · cases ex
section
variable {P : Program} {w : World} {K : PySem.W.Frag} {mg : Str → Option Value} {base : Heap} {f : Addr} {fd : FuncData}
noncomputable def zbo (K : PySem.W.Frag) (n : Nat) : Sp := fun vs H Q _ => ∃ u v : V, vs = [u, v] ∧ Eqi K H n u v ∧ ∀ H', Same H H' → Q (.bl true) H'
theorem zez : FnOk P w K mg base CX0 0 f fd ["_law_found", "_law_due"] (zbo K 0) := by
  have no : ∀ vs H Q E, ¬ zbo K 0 vs H Q E := fun vs H Q E ⟨u, v, _, h, _⟩ => h
  exact ⟨fun vs H Q E h => absurd h (no vs H Q E), fun A outer s H args us vs Q E _ _ _ _ h => absurd h (no vs H Q E)⟩
theorem ycV : yaj ["_law_found", "_law_due"] ["_law_found", "_law_due"] (zae ybf) := ⟨rfl, rfl, rfl, by decide +kernel, rfl, by decide +kernel, by decide +kernel⟩
theorem ydt {n : Nat} (B : Bl mg) (h__law_same : Has P w K mg base n "_law_same" ["_law_found", "_law_due"] (zbo K n)) (F : Fun K "_law_same" "_law_same" ybf f fd) : FnOk P w K mg base CX0 (n + 1) f fd ["_law_found", "_law_due"] (zbo K (n + 1)) := by
  refine F.ok ycV (fun vs H Q E h => ?_) (fun cdv A outer s H vs Q E hr h => ?_)
  · obtain ⟨u, v, rfl, _⟩ := h; rfl
  refine ⟨_, (@yaa _ _ _ _ _ (@zaC _ _ _ _ _ _ _ _ (@zaH _ _ _ (@yai _ _ _ _ _ _ _ _ _ ybv rfl (B "isinstance" (by decide)) PyProof.Rows.boot_isinstance (@zaa _ _ _ _ _ (pv 1) (@zaa _ _ _ _ _ (@zbf _ _ _ _ _ rfl (B "tuple" (by decide)) yao (id (α := RelV (.ty "tuple") (.type "tuple")) rfl) (by decide) (by decide)) zab (by rfl)) (by rfl)) (by decide) (by decide) (by rfl) (by rfl)) (by intro _; rfl)) (@yaa _ _ _ _ _ (@zaC _ _ _ _ _ _ _ _ (@PW.pt _ _ _ (@zbE _ _ _ _ _ _ _ (@zaP _ _ _ _ (@zaH _ _ _ (@yai _ _ _ _ _ _ _ _ _ ybv rfl (B "isinstance" (by decide)) PyProof.Rows.boot_isinstance (@zaa _ _ _ _ _ (pv 0) (@zaa _ _ _ _ _ (@zbf _ _ _ _ _ rfl (B "tuple" (by decide)) yao (id (α := RelV (.ty "tuple") (.type "tuple")) rfl) (by decide) (by decide)) zab (by rfl)) (by rfl)) (by decide) (by decide) (by rfl) (by rfl)) (by intro _; rfl))) (@za1 _ _ _ _ (@zai _ _ _ _ _ _ _ _ zcN (@yai _ _ _ _ _ _ _ _ _ zar rfl (B "len" (by decide)) PySem.boot_len (@zaa _ _ _ _ _ (pv 0) zab (by rfl)) (by decide) (by decide) (by rfl) (by rfl)) (@yai _ _ _ _ _ _ _ _ _ zar rfl (B "len" (by decide)) PySem.boot_len (@zaa _ _ _ _ _ (pv 1) zab (by rfl)) (by decide) (by decide) (by rfl) (by rfl)) (zam _))))) (@zad _ _ _ (@zaj _ _ _ _ yaT)) yam) (@zad _ _ _ (@zaj _ _ _ _ (@yai _ _ _ _ _ _ _ _ _ (zbB rfl) rfl (B "all" (by decide)) PyProof.Rows.boot_all (@zaa _ _ _ _ _ (@zaV _ _ _ _ _ _ _ ["_law_one", "_law_other"] [] [] _ _ _ _ (id (α := CSc ["_law_found", "_law_due"] (zae ybf) ["_law_one", "_law_other"] [] [] _) ⟨by rfl, by decide +kernel, by decide +kernel, by decide +kernel, by decide +kernel, by rfl, by decide +kernel⟩) rfl (@zfU _ _ _ _ _ _ _ _ _ rfl (B "zip" (by decide)) (@zaa _ _ _ _ _ (pv 0) (@zaa _ _ _ _ _ (pv 1) zab (by rfl)) (by rfl)) (by rfl) (by rfl)) (fun cl C fp s H => (@zeD _ _ _ _ 2 _ K rfl rfl (@yaf _ _ _ _ _ (@yae _ _ 0 _ (by show List.Nodup (["_law_one", "_law_other"] : List Str); decide +kernel) rfl (Or.inl rfl) (by first | exact .inl rfl | exact .inr rfl | assumption)) (@yaf _ _ _ _ _ (@yae _ _ 1 _ (by show List.Nodup (["_law_one", "_law_other"] : List Str); decide +kernel) rfl (Or.inl rfl) (by first | exact .inl rfl | exact .inr rfl | assumption)) zax (by rfl)) (by rfl)) (by rfl) (by rfl))) (fun _ _ _ _ _ => zaE) (fun _ _ _ _ _ => (@yad _ _ _ _ _ _ _ _ _ _ _ h__law_same hr (Nat.le_refl _) rfl (@zaa _ _ _ _ _ (pv 0) (@zaa _ _ _ _ _ (pv 1) zab (by rfl)) (by rfl)) (by decide) (by rfl) (by rfl))) (by intro _; rfl)) zab (by rfl)) (by decide) (by decide) (by rfl) (by rfl))))) yam) (@zad _ _ _ (@zaj _ _ _ _ (@zdO _ _ _ _ _ _ _ (@yai _ _ _ _ _ _ _ _ _ zeA rfl (B "isinstance" (by decide)) PyProof.Rows.boot_isinstance (@zaa _ _ _ _ _ (pv 0) (@zaa _ _ _ _ _ (@zbf _ _ _ _ _ rfl (B "int" (by decide)) yca (id (α := RelV (.ty "int") (.type "int")) rfl) (by decide) (by decide)) zab (by rfl)) (by rfl)) (by decide) (by decide) (by rfl) (by rfl)) (@zdO _ _ _ _ _ _ _ (@zfg _ _ _ _ (@yai _ _ _ _ _ _ _ _ _ ydD rfl (B "isinstance" (by decide)) PyProof.Rows.boot_isinstance (@zaa _ _ _ _ _ (pv 0) (@zaa _ _ _ _ _ (@zbf _ _ _ _ _ rfl (B "bool" (by decide)) zbZ (id (α := RelV (.ty "bool") (.type "bool")) rfl) (by decide) (by decide)) zab (by rfl)) (by rfl)) (by decide) (by decide) (by rfl) (by rfl))) (@zeg _ _ _ _ _ (@ybP _ _ _ _ _ _ _ _ zbx (pv 0) (pv 1) (zam _)))))))), ?_⟩
  obtain ⟨u, v, rfl, h, q⟩ := h
  rcases h with ⟨i, rfl, rfl⟩ | ⟨a, b, xs, ys, rfl, rfl, ha, hb, hl, hl2, hx⟩
  · refine ⟨_, rfl, _, "int", rfl, rfl, _, rfl, ?_⟩
    refine ite2 (fun c => absurd c (by decide)) (fun _ => ?_)
    refine ⟨_, rfl, _, "int", rfl, rfl, true, rfl, ?_⟩
    refine ite2 (fun _ => ?_) (fun c => absurd rfl c)
    refine ⟨_, rfl, _, "int", rfl, rfl, false, rfl, true, rfl, ?_⟩
    refine ite2 (fun _ => ?_) (fun c => absurd rfl c)
    refine ⟨_, rfl, _, rfl, rfl, ?_⟩
    rw [decide_eq_true rfl]
    exact q _ (Same.refl _)
  · refine ⟨_, rfl, _, "tuple", rfl, .inr ⟨rfl, _, hb⟩, _, rfl, ?_⟩
    refine ite2 (fun _ => ?_) (fun c => absurd rfl c)
    refine ⟨_, rfl, _, "tuple", rfl, .inr ⟨rfl, _, ha⟩, true, rfl, ?_⟩
    refine ite2 (fun c => absurd c (by decide)) (fun _ => ?_)
    refine ⟨_, rfl, a, _, rfl, .inr ha, _, rfl, b, _, rfl, .inr hb, rfl, false, ?_, ?_⟩
    · show V.bl _ = V.bl false
      rw [hl, decide_eq_true rfl]; rfl
    refine ite2 (fun c => absurd c (by decide)) (fun _ => ?_)
    refine ⟨_, rfl, _, rfl, true, true, a, b, rfl, ⟨_, ha⟩, ⟨_, hb⟩, ?_⟩
    refine yar (yeY (xs := xs) (ys := ys)) (fun k acc H1 => Same H H1 ∧ acc = (List.replicate k true).map V.bl) ⟨Same.refl _, rfl⟩ (fun i acc H1 _ h => ⟨Same.tup h.1 ha, Same.tup h.1 hb⟩) ?_ ?_ ?_
    · rintro k acc H1 hk ⟨_, rfl⟩
      rw [List.length_map, List.length_replicate]; exact zak (by omega)
    · rintro k acc x H1 H2 hk ⟨sm1, rfl⟩ ⟨T, u, v, rfl, eu, ev, hT, rfl⟩
      refine ⟨T, _, rfl, SqT.of zac, rfl, _, _, rfl, _, _, rfl, rfl, ?_⟩
      refine ⟨_, rfl, _, rfl, u, v, rfl, (hx k u v eu ev).same (sm1.trans (yac hT _)), fun H3 s3 => ⟨(sm1.trans (yac hT _)).trans s3, ?_⟩⟩
      rw [List.replicate_succ', List.map_append]; rfl
    · rintro acc H1 ⟨sm1, rfl⟩ D hD
      refine ⟨D, _, rfl, SqL.of zac, ?_⟩
      have e : (List.replicate (min xs.length ys.length) true).all id = true := by simp
      show Q (V.bl ((List.replicate (min xs.length ys.length) true).all id)) _
      rw [e]
      exact q _ (sm1.trans (yac hD _))
end
end My
end
section
-- text: Q66b
set_option Elab.async false
set_option linter.all false
set_option maxRecDepth 100000
set_option maxHeartbeats 4000000
namespace My
open PySem L2 Dg
section
variable {P : Program} {w : World} {K : PySem.W.Frag} {mg : Str → Option Value} {base : Heap} {f : Addr} {fd : FuncData}
noncomputable def zcw (K : PySem.W.Frag) : Sp := fun vs H Q _ => ∃ (a : Addr) (p m t : Nat), vs = [.ref a] ∧ Fld K H a p m t ∧ Good p m t ∧ ∀ H', Same H H' → Q (.bl true) H'
theorem zaX : yaj ["thing", "p", "m", "top", "many"] ["thing"] (zae ybQ) := ⟨rfl, rfl, rfl, by decide +kernel, rfl, by decide +kernel, by decide +kernel⟩
theorem zd0 {tk : Tok} (m_MOST_THINGS : mg "MOST_THINGS" = some (.int 64 tk)) (B : Bl mg) (h_is_wholes : Has P w K mg base 2 "is_wholes" ["thing", "many"] (yey K)) (h_is_prime : Has P w K mg base 1 "is_prime" ["number"] zcs) (h_many_things : Has P w K mg base 2 "many_things" ["field"] (zcU K)) (h_all_come_to_one : Has P w K mg base 5 "all_come_to_one" ["field"] (yc9 K)) (F : Fun K "is_field" "is_field" ybQ f fd) : FnOk P w K mg base CX0 6 f fd ["thing"] (zcw K) := by
  refine F.ok zaX (fun vs H Q E h => ?_) (fun cdv A outer s H vs Q E hr h => ?_)
  · obtain ⟨a, p, m, t, rfl, _⟩ := h; rfl
  obtain ⟨a, p, m, t, rfl, hF, G, q⟩ := h
  have hp := G.hp
  have hm := G.hm
  have hq := G.hq
  have hp2 := p_le hp hm hq
  have hm6 := m_le hp hq
  have htp := G.top
  refine ⟨_, (@yaa _ _ _ _ _ (@zaC _ _ _ _ _ _ _ _ (@zaP _ _ _ _ (@zaH _ _ _ (@yad _ _ _ _ _ _ _ _ _ _ _ h_is_wholes hr (by decide) rfl (@zaa _ _ _ _ _ (pv 0) (@zaa _ _ _ _ _ yab zab (by rfl)) (by rfl)) (by decide) (by rfl) (by rfl)) (by intro _; rfl))) (@zad _ _ _ (@zaj _ _ _ _ yaT)) yam) (@yaa _ _ _ _ _ (@yaS _ _ _ _ _ _ (pv 0) (@zaQ _ _ _ _ _ _ rfl (@yaf _ _ _ _ _ (@yae _ _ 1 _ zaX.nd rfl (Or.inl rfl) (by first | exact .inl rfl | exact .inr rfl | assumption)) (@yaf _ _ _ _ _ (@yae _ _ 2 _ zaX.nd rfl (Or.inl rfl) (by first | exact .inl rfl | exact .inr rfl | assumption)) (@yaf _ _ _ _ _ (@yae _ _ 3 _ zaX.nd rfl (Or.inl rfl) (by first | exact .inl rfl | exact .inr rfl | assumption)) zax (by rfl)) (by rfl)) (by rfl)) (by rfl) (by rfl)) (by rfl) (by rfl) (by rfl)) (@yaa _ _ _ _ _ (@zaC _ _ _ _ _ _ _ _ (@zaP _ _ _ _ (@PW.pt _ _ _ (@ydK _ _ _ _ _ _ _ (@zbM _ _ _ _ _ _ _ _ _ _ _ _ yd1 yd1 yab (pv 1) (@ydy _ _ _ _ _ rfl m_MOST_THINGS (yb1 _ _) (by decide)) (by with_unfolding_all rfl)) (@ydK _ _ _ _ _ _ _ (@zbM _ _ _ _ _ _ _ _ _ _ _ _ yd1 yd1 yab (pv 2) (@ydy _ _ _ _ _ rfl m_MOST_THINGS (yb1 _ _) (by decide)) (by with_unfolding_all rfl)) (@zdw _ _ _ _ (@zaH _ _ _ (@yad _ _ _ _ _ _ _ _ _ _ _ h_is_prime hr (by decide) rfl (@zaa _ _ _ _ _ (pv 1) zab (by rfl)) (by decide) (by rfl) (by rfl)) (by intro _; rfl))))))) (@zad _ _ _ (@zaj _ _ _ _ yaT)) yam) (@yaa _ _ _ _ _ (@yag _ _ 4 _ _ _ _ zaX.nd rfl (Or.inl rfl) (@yad _ _ _ _ _ _ _ _ _ _ _ h_many_things hr (by decide) rfl (@zaa _ _ _ _ _ (pv 0) zab (by rfl)) (by decide) (by rfl) (by rfl)) (by rfl) (by first | exact .inl rfl | exact .inr rfl | assumption)) (@yaa _ _ _ _ _ (@zaC _ _ _ _ _ _ _ _ (@PW.pt _ _ _ (@zbE _ _ _ _ _ _ _ (@zai _ _ _ _ _ _ _ _ zb1 (pv 4) (@ydy _ _ _ _ _ rfl m_MOST_THINGS (yb1 _ _) (by decide)) (zam _)) (@za1 _ _ _ _ (@zaP _ _ _ _ (@zbM _ _ _ _ _ _ _ _ _ _ _ _ yd1 zdz yab (pv 3) (pv 4) (by with_unfolding_all rfl)))))) (@zad _ _ _ (@zaj _ _ _ _ yaT)) yam) (@zad _ _ _ (@zaj _ _ _ _ (@yad _ _ _ _ _ _ _ _ _ _ _ h_all_come_to_one hr (by decide) rfl (@zaa _ _ _ _ _ (pv 0) zab (by rfl)) (by decide) (by rfl) (by rfl))))))))), ?_⟩
  refine ⟨_, rfl, a, [p, m, t], rfl, hF, (show 3 ≤ 10 by omega), fun H1 s1 => ?_⟩
  refine ⟨true, rfl, ?_⟩
  refine ite2 (fun c => absurd c (by decide)) (fun _ => ?_)
  dsimp only [ycr]
  have hF1 := Same.tup s1 hF
  refine ⟨_, rfl, a, _, rfl, hF1, rfl, _, _, rfl, _, _, rfl, _, _, rfl, rfl, ?_⟩
  refine ⟨_, rfl, _, _, rfl, rfl, true, by show V.bl (decide ((2 : Int) ≤ (p : Int))) = V.bl true; rw [decide_eq_true (by omega)], ?_⟩
  refine ite2 (fun _ => ?_) (fun c => absurd rfl c)
  refine ⟨_, _, rfl, rfl, true, by show V.bl (decide ((p : Int) ≤ 64)) = V.bl true; rw [decide_eq_true (by omega)], ?_⟩
  refine ite2 (fun _ => ?_) (fun c => absurd rfl c)
  refine ⟨_, rfl, _, _, rfl, rfl, true, by show V.bl (decide ((1 : Int) ≤ (m : Int))) = V.bl true; rw [decide_eq_true (by omega)], ?_⟩
  refine ite2 (fun _ => ?_) (fun c => absurd rfl c)
  refine ⟨_, _, rfl, rfl, true, by show V.bl (decide ((m : Int) ≤ 64)) = V.bl true; rw [decide_eq_true (by omega)], ?_⟩
  refine ite2 (fun _ => ?_) (fun c => absurd rfl c)
  refine ⟨_, rfl, p, rfl, hp, hp2, fun low h2 h => My.Good.prime G h2 h, true, rfl, ?_⟩
  refine ite2 (fun c => absurd c (by decide)) (fun _ => ?_)
  dsimp only [ycr]
  refine ⟨_, rfl, a, p, m, t, rfl, hF1, hp2, by omega, ?_⟩
  dsimp only [yaC]
  refine ⟨_, rfl, _, _, rfl, rfl, false, by show V.bl (decide (((p ^ m : Nat) : Int) > 64)) = V.bl false; rw [decide_eq_false (by omega)], ?_⟩
  refine ite2 (fun c => absurd c (by decide)) (fun _ => ?_)
  refine ⟨_, rfl, _, _, rfl, rfl, true, by show V.bl (decide ((0 : Int) ≤ (t : Int))) = V.bl true; rw [decide_eq_true (by omega)], ?_⟩
  refine ite2 (fun _ => ?_) (fun c => absurd rfl c)
  refine ⟨_, rfl, _, _, rfl, rfl, true, by show V.bl (decide ((t : Int) < ((p ^ m : Nat) : Int))) = V.bl true; rw [decide_eq_true (by omega)], ?_⟩
  refine ite2 (fun c => absurd c (by decide)) (fun _ => ?_)
  dsimp only [ycr]
  exact ⟨_, rfl, a, p, m, t, rfl, hF1, G, q _ s1⟩
noncomputable def zcn (K : PySem.W.Frag) : Sp := fun vs H Q _ => ∃ (a : Addr) (ns : List Nat) (n : Nat), vs = [.ref a, Vn n] ∧ SqT K H a (ns.map Vn) ∧ ns.Pairwise (· < ·) ∧ (∀ x ∈ ns, x < n) ∧ Q (.bl true) H
theorem za2 : yaj ["thing", "n", "before", "mark"] ["thing", "n"] (zae ybF) := ⟨rfl, rfl, rfl, by decide +kernel, rfl, by decide +kernel, by decide +kernel⟩
theorem ydw (B : Bl mg) (h_is_whole : Has P w K mg base 1 "is_whole" ["thing"] ycS) (F : Fun K "is_rising" "is_rising" ybF f fd) : FnOk P w K mg base CX0 2 f fd ["thing", "n"] (zcn K) := by
  refine F.ok za2 (fun vs H Q E h => ?_) (fun cdv A outer s H vs Q E hr h => ?_)
  · obtain ⟨a, ns, n, rfl, _⟩ := h; rfl
  obtain ⟨a, ns, n, rfl, ha, hasc, hlt, q⟩ := h
  refine ⟨_, (@yaa _ _ _ _ _ (@zaC _ _ _ _ _ _ _ _ (@zaP _ _ _ _ (@zaH _ _ _ (@yai _ _ _ _ _ _ _ _ _ ybv rfl (B "isinstance" (by decide)) PyProof.Rows.boot_isinstance (@zaa _ _ _ _ _ (pv 0) (@zaa _ _ _ _ _ (@zbf _ _ _ _ _ rfl (B "tuple" (by decide)) yao (id (α := RelV (.ty "tuple") (.type "tuple")) rfl) (by decide) (by decide)) zab (by rfl)) (by rfl)) (by decide) (by decide) (by rfl) (by rfl)) (by intro _; rfl))) (@zad _ _ _ (@zaj _ _ _ _ yaT)) yam) (@yaa _ _ _ _ _ (@yag _ _ 2 _ _ _ _ za2.nd rfl (Or.inl rfl) (@zed _ _ _ _ _ _ zdh yab) (by rfl) (by first | exact .inl rfl | exact .inr rfl | assumption)) (@yaa _ _ _ _ _ (@zaG _ _ _ _ _ _ _ _ PassesOwn.never rfl (@ycA _ _ _ _ (pv 0)) (@yae _ _ 3 _ za2.nd rfl (Or.inl rfl) (by first | exact .inl rfl | exact .inr rfl | assumption)) (@yaa _ _ _ _ _ (@zaC _ _ _ _ _ _ _ _ (@PW.pt _ _ _ (@zbE _ _ _ _ _ _ _ (@zaP _ _ _ _ (@zaH _ _ _ (@yad _ _ _ _ _ _ _ _ _ _ _ h_is_whole hr (by decide) rfl (@zaa _ _ _ _ _ (pv 3) zab (by rfl)) (by decide) (by rfl) (by rfl)) (by intro _; rfl))) (@za1 _ _ _ _ (@zaP _ _ _ _ (@zbM _ _ _ _ _ _ _ _ _ _ _ _ zdz zdz (pv 2) (pv 3) (pv 1) (by with_unfolding_all rfl)))))) (@zad _ _ _ (@zaj _ _ _ _ yaT)) yam) (@zad _ _ _ (@yag _ _ 2 _ _ _ _ za2.nd rfl (Or.inl rfl) (pv 3) (by rfl) (by first | exact .inl rfl | exact .inr rfl | assumption)))) (by intro _; rfl)) (@zad _ _ _ (@zaj _ _ _ _ yaT))))), ?_⟩
  refine ⟨_, rfl, _, "tuple", rfl, .inr ⟨rfl, _, ha⟩, true, rfl, ?_⟩
  refine ite2 (fun c => absurd c (by decide)) (fun _ => ?_)
  dsimp only [ycr]
  refine ⟨_, rfl, ?_⟩
  dsimp only [yaC]
  refine ⟨_, rfl, a, rfl, ⟨_, ha⟩, ?_⟩
  refine zbV (za3 (xs := ns.map Vn)) (fun i σ' H' => H' = H ∧ ∃ (b : Int) (v3 : Option V), (∀ x ∈ ns.drop i, b < (x : Int)) ∧ σ' = [some (.ref a), some (Vn n), some (.int b), v3]) ⟨rfl, -1, _, fun x _ => by omega, rfl⟩ (fun i σ' H' _ h => by rw [h.1]; exact ha) ?_ ?_
  · rintro i z σ' Ha Hb hi ⟨rfl, b, v3, hb, rfl⟩ ⟨rfl, ez⟩
    rw [List.length_map] at hi
    rw [yaX hi] at ez
    cases ez
    have hx : ns.getD i 0 = ns[i] := by simp [List.getD, hi]
    have hd : ns.drop i = ns[i] :: ns.drop (i + 1) := List.drop_eq_getElem_cons hi
    have h1 : b < (ns[i] : Int) := hb _ (by rw [hd]; exact List.mem_cons_self)
    have h2 : ns[i] < n := hlt _ (List.getElem_mem hi)
    have h3 : ∀ x ∈ ns.drop (i + 1), ns[i] < x := fun x hx => by
      have := hasc.drop (i := i)
      rw [hd] at this
      exact (List.pairwise_cons.mp this).1 x hx
    rw [hx]
    generalize ns[i] = y at h1 h2 h3
    dsimp only [yaC]
    refine ⟨_, rfl, _, rfl, true, rfl, ?_⟩
    refine ite2 (fun c => absurd c (by decide)) (fun _ => ?_)
    refine ⟨_, rfl, _, rfl, _, _, rfl, rfl, true, by show V.bl (decide (b < (y : Int))) = V.bl true; rw [decide_eq_true h1], ?_⟩
    refine ite2 (fun _ => ?_) (fun c => absurd rfl c)
    refine ⟨_, rfl, _, _, rfl, rfl, true, by show V.bl (decide ((y : Int) < (n : Int))) = V.bl true; rw [decide_eq_true (by omega)], ?_⟩
    refine ite2 (fun c => absurd c (by decide)) (fun _ => ?_)
    dsimp only [ycr]
    exact ⟨_, rfl, rfl, (y : Int), _, fun x hx => by have := h3 x hx; omega, rfl⟩
  · rintro σ' Ha ⟨rfl, b, v3, _, rfl⟩
    exact q
end
end My
end
section
-- text: Q69d
set_option Elab.async false
set_option linter.all false
set_option maxRecDepth 100000
set_option maxHeartbeats 4000000
namespace My
open PySem L2 Dg
noncomputable def zfe (pu g : Addr) (most : Nat) (H : Hp) (tb wh : Addr) : Prop := ∃ (fa pa la mk : Addr) (p m t b few root n : Nat) (marks : List Nat), Tab H tb fa pa la p m t b ∧ yeR pu g tb fa pa la ∧ WhAt H wh fa mk few root marks ∧ (wh ≠ pu ∧ wh ≠ g) ∧ (mk ≠ pu ∧ mk ≠ g) ∧ Whl p m t few root n marks ∧ n ≤ most
theorem yee {K : PySem.W.Frag} {H : Hp} {a b : Addr} {xs ys : List V} {Q : VK} (ha : SqT K H a xs) (hb : SqT K H b ys) (hz : xs.length + ys.length ≤ 1000) (h1 : xs ≠ []) (h2 : ys ≠ []) (q : ∀ p, H p = none → Q (.ref p) (upd H p (.tup (xs ++ ys)))) : zf4 K (.ref a) (.ref b) H Q :=
  ⟨a, b, xs, ys, rfl, rfl, ha, hb, szl _ (by omega), fun e => absurd e h1, fun _ e => absurd e h2, fun _ _ p hp => q p hp⟩
theorem ycv (xs : List V) (N : Nat) : cutV xs none (some (N : Int)) = xs.take N := by
  unfold cutV
  rw [HT.sIx_none, HT.sIx_nat, List.drop_zero, Nat.sub_zero, ← List.take_eq_take_min]
theorem yfh {K : PySem.W.Frag} {H : Hp} {a : Addr} {xs : List V} {N : Nat} {Q : VK} (h : SqT K H a xs) (q : ∀ (r : Addr) H', Same H H' → SqT K H' r (xs.take N) → Q (.ref r) H') : rSlA K (.ref a) none (some (N : Int)) H Q := by
  refine ⟨a, _, rfl, h, fun e => ?_, fun l hl => ?_⟩
  · rw [ycv] at e
    exact q a H (Same.refl _) (by rw [e]; exact h)
  · rw [ycv]
    exact q l _ (yac hl _) (SqT.of zac)
theorem yeX (m k : Nat) : decide (V.int ((m : Int) % (1 + (k : Int))) = V.int 0) = decide (m % (1 + k) = 0) := by rw [show (1 + (k : Int)) = ((1 + k : Nat) : Int) by omega]; exact ydJ _ _
section
variable {P : Program} {w : World} {K : PySem.W.Frag} {mg : Str → Option Value} {base : Heap} {f : Addr} {fd : FuncData}
noncomputable def ydF : Sp := fun vs H Q _ => ∃ (pu g : Addr) (most : Nat), vs = [.ref pu, Vn most] ∧ Pu H pu g ∧ 1 ≤ most ∧
  ∀ (r tb fa pa la wh mk : Addr) (p m t b few root n part : Nat) (marks : List Nat) H', H' r = some (.tup [.ref tb, .ref wh, Vn part]) → Tab H' tb fa pa la p m t b → yeR pu g tb fa pa la → WhAt H' wh fa mk few root marks → (wh ≠ pu ∧ wh ≠ g) → (mk ≠ pu ∧ mk ≠ g) → Whl p m t few root n marks → n ≤ most → 1 ≤ part → few % part = 0 → Pu H' pu g → yaq pu g H H' → Q (.ref r) H'
theorem yan : yaj ["_law_purse_here", "_law_most", "_law_table_here", "_law_wheel_here", "_law_turn", "_law_parts"] ["_law_purse_here", "_law_most"] (zae zaA) := ⟨rfl, rfl, rfl, by decide +kernel, rfl, by decide +kernel, by decide +kernel⟩
theorem zeU (B : Bl mg) (h__law_wheel : Has P w K mg base 5 "_law_wheel" ["_law_purse_here", "_law_most"] ydc) (h__law_pick : Has P w K mg base 1 "_law_pick" ["_law_purse_here", "_law_many"] ycK) (F : Fun K "_law_wide_wheel" "_law_wide_wheel" zaA f fd) : FnOk P w K mg base CX0 6 f fd ["_law_purse_here", "_law_most"] ydF := by
  refine F.ok yan (fun vs H Q E h => ?_) (fun cdv A outer s H vs Q E hr h => ?_)
  · obtain ⟨pu, g, most, rfl, _⟩ := h; rfl
  obtain ⟨pu, g, most, rfl, hP, hmost, q⟩ := h
  refine ⟨_, (@yaa _ _ _ _ _ (@yaS _ _ _ _ _ _ (@yad _ _ _ _ _ _ _ _ _ _ _ h__law_wheel hr (by decide) rfl (@zaa _ _ _ _ _ (pv 0) (@zaa _ _ _ _ _ (pv 1) zab (by rfl)) (by rfl)) (by decide) (by rfl) (by rfl)) (@zaQ _ _ _ _ _ _ rfl (@yaf _ _ _ _ _ (@yae _ _ 2 _ yan.nd rfl (Or.inl rfl) (by first | exact .inl rfl | exact .inr rfl | assumption)) (@yaf _ _ _ _ _ (@yae _ _ 3 _ yan.nd rfl (Or.inr rfl) (by first | exact .inl rfl | exact .inr rfl | assumption)) zax (by rfl)) (by rfl)) (by rfl) (by rfl)) (by rfl) (by rfl) (by rfl)) (@yaa _ _ _ _ _ (@zaG _ _ _ _ _ _ _ _ PassesOwn.never rfl (@zaD _ _ _ _ _ _ rfl (B "range" (by decide)) (@zaa _ _ _ _ _ yab zab (by rfl)) (by rfl)) (@yae _ _ 4 _ yan.nd rfl (Or.inl rfl) (by first | exact .inl rfl | exact .inr rfl | assumption)) (@zad _ _ _ (@zaC _ _ _ _ _ _ _ _ (@zai _ _ _ _ _ _ _ _ zbx (@zao _ _ _ _ _ _ _ zav (pv 3) yab (fun _ _ => rfl)) yab (zam _)) (@zad _ _ _ (@yaS _ _ _ _ _ _ (@yad _ _ _ _ _ _ _ _ _ _ _ h__law_wheel hr (by decide) rfl (@zaa _ _ _ _ _ (pv 0) (@zaa _ _ _ _ _ (pv 1) zab (by rfl)) (by rfl)) (by decide) (by rfl) (by rfl)) (@zaQ _ _ _ _ _ _ rfl (@yaf _ _ _ _ _ (@yae _ _ 2 _ yan.nd rfl (Or.inl rfl) (by first | exact .inl rfl | exact .inr rfl | assumption)) (@yaf _ _ _ _ _ (@yae _ _ 3 _ yan.nd rfl (Or.inr rfl) (by first | exact .inl rfl | exact .inr rfl | assumption)) zax (by rfl)) (by rfl)) (by rfl) (by rfl)) (by rfl) (by rfl) (by rfl))) yam)) (by intro _; rfl)) (@yaa _ _ _ _ _ (@ybg _ 5 _ _ _ _ _ _ _ _ _ ["_law_part"] ["_law_wheel_here"] [3] _ _ _ _ yan.nd rfl (Or.inl rfl) (id (α := CSc ["_law_purse_here", "_law_most", "_law_table_here", "_law_wheel_here", "_law_turn", "_law_parts"] (zae zaA) ["_law_part"] ["_law_wheel_here"] [3] _) ⟨by rfl, by decide +kernel, by decide +kernel, by decide +kernel, by decide +kernel, by rfl, by decide +kernel⟩) rfl (@yaW _ _ _ _ _ _ _ rfl (B "range" (by decide)) (@zaa _ _ _ _ _ yab (@zaa _ _ _ _ _ (@zah _ _ _ _ _ _ _ _ yay (@zao _ _ _ _ _ _ _ zav (pv 3) yab (fun _ _ => rfl)) yab) zab (by rfl)) (by rfl)) (by rfl) (by rfl)) (fun cl C fp s H => (@yae _ _ 0 _ (by show List.Nodup (["_law_part", "_law_wheel_here"] : List Str); decide +kernel) rfl (Or.inl rfl) (by first | exact .inl rfl | exact .inr rfl | assumption))) (fun _ _ _ _ _ => (@ybz _ _ _ (@zai _ _ _ _ _ _ _ _ zbx (@zah _ _ _ _ _ _ _ _ zat (@zao _ _ _ _ _ _ _ (zbH (K := K) rfl) (pv 1) yab (fun _ _ => rfl)) (pv 0)) yab (zam _)))) (fun _ _ _ _ _ => (pv 0)) (by rfl) (by intro _; rfl) (by first | exact .inl rfl | exact .inr rfl | assumption)) (@zad _ _ _ (@zaj _ _ _ _ (@ybb _ _ _ _ _ (@zaa _ _ _ _ _ (pv 2) (@zaa _ _ _ _ _ (pv 3) (@zaa _ _ _ _ _ (@zao _ _ _ _ _ _ _ zaq (pv 5) (@yad _ _ _ _ _ _ _ _ _ _ _ h__law_pick hr (by decide) rfl (@zaa _ _ _ _ _ (pv 0) (@zaa _ _ _ _ _ (@yai _ _ _ _ _ _ _ _ _ zar rfl (B "len" (by decide)) PySem.boot_len (@zaa _ _ _ _ _ (pv 5) zab (by rfl)) (by decide) (by decide) (by rfl) (by rfl)) zab (by rfl)) (by rfl)) (by decide) (by rfl) (by rfl)) (fun _ _ => rfl)) zab (by rfl)) (by rfl)) (by rfl)))))))), ?_⟩
  refine ⟨_, rfl, _, rfl, pu, g, most, rfl, hP, hmost, fun r tb fa pa la wh mk p m t b few root n marks H1 er T ap hW nwh nmk nr W hn hP1 sx1 => ?_⟩
  refine ⟨r, _, rfl, SqT.of er, rfl, _, _, rfl, _, _, rfl, rfl, ?_⟩
  have d1 : zfe pu g most H1 tb wh := ⟨fa, pa, la, mk, p, m, t, b, few, root, n, marks, T, ap, hW, nwh, nmk, W, hn⟩
  clear T ap hW W nwh nmk er hn
  refine ⟨6, rfl, by omega, by omega, ?_⟩
  refine yaw (lo := 0) (n := (6 : Int).toNat) (fun i σ H' => Pu H' pu g ∧ yaq pu g H H' ∧ ∃ (tb wh : Addr) (v : Option V) (v5 : Option V), zfe pu g most H' tb wh ∧ σ = [some (.ref pu), some (Vn most), some (.ref tb), some (.ref wh), v, v5]) ⟨hP1, sx1, tb, wh, none, none, d1, rfl⟩ ?_ ?_
  · rintro i σ H2 hi ⟨hP2, sx2, tb, wh, v, v5, d2, rfl⟩
    obtain ⟨fa, pa, la, mk, p, m, t, b, few, root, n, marks, T, ap, hW, nwh, nmk, W, hn⟩ := id d2
    refine ⟨_, rfl, wh, _, _, Vn few, rfl, rfl, SqT.of hW.w, rfl, rfl, _, rfl, ?_⟩
    refine ite2 (fun c => ?_) (fun c => ?_)
    · refine ⟨_, rfl, _, rfl, pu, g, most, rfl, hP2, hmost, fun r tb fa pa la wh mk p m t b few root n marks H3 er T ap hW nwh nmk nr W hn hP3 sx3 => ?_⟩
      refine ⟨r, _, rfl, SqT.of er, rfl, _, _, rfl, _, _, rfl, rfl, ?_⟩
      exact ⟨hP3, sx2.trans sx3, tb, wh, _, _, ⟨fa, pa, la, mk, p, m, t, b, few, root, n, marks, T, ap, hW, nwh, nmk, W, hn⟩, rfl⟩
    · exact ⟨hP2, sx2, tb, wh, _, _, d2, rfl⟩
  · rintro σ H2 ⟨hP2, sx2, tb, wh, v, v5, d2, rfl⟩
    obtain ⟨fa, pa, la, mk, p, m, t, b, few, root, n, marks, T, ap, hW, nwh, nmk, W, hn⟩ := id d2
    have G := T.good
    have hm6 := m_le G.hp G.hq
    have hm := G.hm
    have hfm : few ≤ m := Nat.le_of_dvd (by omega) (Nat.dvd_of_mod_eq_zero W.fewm)
    have hf1 := W.few1
    refine ⟨_, rfl, wh, _, _, Vn few, rfl, rfl, SqT.of hW.w, rfl, _, _, rfl, rfl, ?_⟩
    refine ⟨1, ((few + 1 : Nat) : Int), rfl, by omega, ?_⟩
    refine yar zbe (fun k acc H' => H' = H2 ∧ ∃ fs : List Nat, acc = fs.map Vn ∧ (∀ f ∈ fs, 1 ≤ f ∧ few % f = 0) ∧ fs.length ≤ k ∧ (0 < k → 0 < fs.length)) ⟨rfl, ([] : List Nat), rfl, fun f hf => absurd hf (by simp), Nat.le_refl _, fun h => absurd h (Nat.lt_irrefl _)⟩ (fun _ _ _ _ _ => trivial) ?_ ?_ ?_
    · rintro k acc H' hk ⟨_, fs, rfl, _, hl, _⟩
      rw [List.length_map]; exact zak (by omega)
    · rintro k acc x H' H'' hk ⟨rfl, fs, rfl, hfs, hl, h0⟩ ⟨rfl, rfl⟩
      refine ⟨_, rfl, wh, _, _, Vn few, rfl, rfl, SqT.of hW.w, rfl, _, rfl, _, _, rfl, rfl, by show (0 : Int) < 1 + (k : Int); omega, rfl, _, rfl, ?_⟩
      have ed := yeX few k
      refine ite2 (fun c => ?_) (fun c => ?_)
      · have c1 : few % (1 + k) = 0 := by rw [ed] at c; exact of_decide_eq_true c
        refine ⟨_, rfl, rfl, fs ++ [1 + k], ?_, ?_, by simp; omega, fun _ => by simp⟩
        · rw [List.map_append, show V.int (1 + (k : Int)) = Vn (1 + k) from ycE (by omega)]; rfl
        · intro f hf
          rcases List.mem_append.mp hf with h | h
          · exact hfs f h
          · cases List.mem_singleton.mp h; exact ⟨by omega, c1⟩
      · refine ⟨rfl, fs, rfl, hfs, by omega, fun _ => ?_⟩
        by_cases c0 : k = 0
        · subst c0
          refine absurd ?_ c
          rw [ed, decide_eq_true (by show few % 1 = 0; exact Nat.mod_one few)]
        · exact h0 (by omega)
    rintro acc H5 ⟨rfl, fs, rfl, hfs, hfl, hf0⟩ fl hfl'
    have hfl2 : fs.length ≤ 6 := by omega
    have hf1 : 0 < fs.length := hf0 (by omega)
    have s5 := yac hfl' (.lst (fs.map Vn))
    have hP5 := hP2.same s5
    have nfl := hP2.lt hfl'
    have e5 : upd H5 fl (.lst (fs.map Vn)) fl = some (.lst (fs.map Vn)) := zac
    have sx5 := sx2.trans (Same.x s5)
    have T5 := T.same s5
    have hW5 := hW.same s5
    dsimp only [yaC]
    generalize upd H5 fl (.lst (fs.map Vn)) = H5' at s5 hP5 e5 sx5 T5 hW5 ⊢
    refine ⟨_, rfl, _, rfl, _, rfl, _, rfl, _, rfl, fl, _, rfl, .inl (SqL.of e5), ?_⟩
    refine ⟨pu, g, fs.length, by rw [List.length_map]; rfl, hP5, hf1, by omega, fun fi H6 hfi hP6 sx6 => ?_⟩
    have hpart := hfs (fs.getD fi 0) (by
      have := List.getElem_mem hfi
      rwa [show fs.getD fi 0 = fs[fi] by simp [List.getD, hfi]])
    refine ⟨fl, _, _, Vn (fs.getD fi 0), rfl, rfl, SqL.of (sx6 _ _ nfl.1 nfl.2 e5), ybk (yaX hfi), ?_⟩
    refine ⟨szl 3, fun r2 hr2 => ?_⟩
    have s7 := yac hr2 (.tup [.ref tb, .ref wh, Vn (fs.getD fi 0)])
    exact q r2 tb fa pa la wh mk p m t b few root n _ marks _ zac ((T5.x ap sx6).same s7) ap ((hW5.x nwh nmk sx6).same s7) nwh nmk W hn hpart.1 hpart.2 (hP6.same s7) (sx5.trans (sx6.trans (Same.x s7)))
end
end My
end
section
-- text: Q66
set_option Elab.async false
set_option linter.all false
set_option maxRecDepth 100000
set_option maxHeartbeats 4000000
namespace My
open PySem L2 Dg
section
variable {P : Program} {w : World} {K : PySem.W.Frag} {mg : Str → Option Value} {base : Heap} {f : Addr} {fd : FuncData}
noncomputable def zcz (K : PySem.W.Frag) : Sp := fun vs H Q _ => ∃ (wa fa mk : Addr) (p m t few root n : Nat) (marks : List Nat), vs = [.ref wa] ∧ WhAt H wa fa mk few root marks ∧ Fld K H fa p m t ∧ Good p m t ∧ Whl p m t few root n marks ∧ n ≤ 63 ∧ ∀ H', Same H H' → Q (.bl true) H'
theorem zaF : yaj ["thing", "field", "few", "root", "marks", "n", "q"] ["thing"] (zae ybB) := ⟨rfl, rfl, rfl, by decide +kernel, rfl, by decide +kernel, by decide +kernel⟩
theorem zdV (B : Bl mg) (h_is_field : Has P w K mg base 6 "is_field" ["thing"] (zcw K)) (h_is_whole : Has P w K mg base 1 "is_whole" ["thing"] ycS) (h_many_things : Has P w K mg base 2 "many_things" ["field"] (zcU K)) (h_length : Has P w K mg base 5 "length" ["wheel"] (zb9 K)) (h_number_power : Has P w K mg base 1 "number_power" ["base", "many"] yal) (h_is_rising : Has P w K mg base 2 "is_rising" ["thing", "n"] (zcn K)) (F : Fun K "is_wheel" "is_wheel" ybB f fd) : FnOk P w K mg base CX0 7 f fd ["thing"] (zcz K) := by
  refine F.ok zaF (fun vs H Q E h => ?_) (fun cdv A outer s H vs Q E hr h => ?_)
  · obtain ⟨wa, fa, mk, p, m, t, few, root, n, marks, rfl, _⟩ := h; rfl
  obtain ⟨wa, fa, mk, p, m, t, few, root, n, marks, rfl, hW, hF, G, W, hn, q⟩ := h
  have hp := G.hp
  have hm := G.hm
  have hq := G.hq
  have hp2 := p_le hp hm hq
  have hm6 := m_le hp hq
  have hn0 := W.ord.pos
  have hf1 := W.few1
  have hr0 := W.r0
  have hrq := W.rq
  have hfm : few ≤ m := Nat.le_of_dvd (by omega) (Nat.dvd_of_mod_eq_zero W.fewm)
  refine ⟨_, (@yaa _ _ _ _ _ (@zaC _ _ _ _ _ _ _ _ (@PW.pt _ _ _ (@zbE _ _ _ _ _ _ _ (@zaP _ _ _ _ (@zaH _ _ _ (@yai _ _ _ _ _ _ _ _ _ ybv rfl (B "isinstance" (by decide)) PyProof.Rows.boot_isinstance (@zaa _ _ _ _ _ (pv 0) (@zaa _ _ _ _ _ (@zbf _ _ _ _ _ rfl (B "tuple" (by decide)) yao (id (α := RelV (.ty "tuple") (.type "tuple")) rfl) (by decide) (by decide)) zab (by rfl)) (by rfl)) (by decide) (by decide) (by rfl) (by rfl)) (by intro _; rfl))) (@za1 _ _ _ _ (@zai _ _ _ _ _ _ _ _ zcN (@yai _ _ _ _ _ _ _ _ _ zar rfl (B "len" (by decide)) PySem.boot_len (@zaa _ _ _ _ _ (pv 0) zab (by rfl)) (by decide) (by decide) (by rfl) (by rfl)) yab (zam _))))) (@zad _ _ _ (@zaj _ _ _ _ yaT)) yam) (@yaa _ _ _ _ _ (@yaS _ _ _ _ _ _ (pv 0) (@zaQ _ _ _ _ _ _ rfl (@yaf _ _ _ _ _ (@yae _ _ 1 _ zaF.nd rfl (Or.inl rfl) (by first | exact .inl rfl | exact .inr rfl | assumption)) (@yaf _ _ _ _ _ (@yae _ _ 2 _ zaF.nd rfl (Or.inl rfl) (by first | exact .inl rfl | exact .inr rfl | assumption)) (@yaf _ _ _ _ _ (@yae _ _ 3 _ zaF.nd rfl (Or.inl rfl) (by first | exact .inl rfl | exact .inr rfl | assumption)) (@yaf _ _ _ _ _ (@yae _ _ 4 _ zaF.nd rfl (Or.inr rfl) (by first | exact .inl rfl | exact .inr rfl | assumption)) zax (by rfl)) (by rfl)) (by rfl)) (by rfl)) (by rfl) (by rfl)) (by rfl) (by rfl) (by rfl)) (@yaa _ _ _ _ _ (@zaC _ _ _ _ _ _ _ _ (@PW.pt _ _ _ (@zbE _ _ _ _ _ _ _ (@zaP _ _ _ _ (@zaH _ _ _ (@yad _ _ _ _ _ _ _ _ _ _ _ h_is_field hr (by decide) rfl (@zaa _ _ _ _ _ (pv 1) zab (by rfl)) (by decide) (by rfl) (by rfl)) (by intro _; rfl))) (@zbE _ _ _ _ _ _ _ (@zaP _ _ _ _ (@zaH _ _ _ (@yad _ _ _ _ _ _ _ _ _ _ _ h_is_whole hr (by decide) rfl (@zaa _ _ _ _ _ (pv 2) zab (by rfl)) (by decide) (by rfl) (by rfl)) (by intro _; rfl))) (@za1 _ _ _ _ (@zaP _ _ _ _ (@zaH _ _ _ (@yad _ _ _ _ _ _ _ _ _ _ _ h_is_whole hr (by decide) rfl (@zaa _ _ _ _ _ (pv 3) zab (by rfl)) (by decide) (by rfl) (by rfl)) (by intro _; rfl))))))) (@zad _ _ _ (@zaj _ _ _ _ yaT)) yam) (@yaa _ _ _ _ _ (@zaC _ _ _ _ _ _ _ _ (@PW.pt _ _ _ (@zbE _ _ _ _ _ _ _ (@zai _ _ _ _ _ _ _ _ zdz (pv 2) yab (zam _)) (@zbE _ _ _ _ _ _ _ (@zai _ _ _ _ _ _ _ _ zcN (@zah _ _ _ _ _ _ _ _ zat (@zao _ _ _ _ _ _ _ zav (pv 1) yab (fun _ _ => rfl)) (pv 2)) yab (zam _)) (@za1 _ _ _ _ (@zaP _ _ _ _ (@zbM _ _ _ _ _ _ _ _ _ _ _ _ zdz zdz yab (pv 3) (@yad _ _ _ _ _ _ _ _ _ _ _ h_many_things hr (by decide) rfl (@zaa _ _ _ _ _ (pv 1) zab (by rfl)) (by decide) (by rfl) (by rfl)) (by with_unfolding_all rfl))))))) (@zad _ _ _ (@zaj _ _ _ _ yaT)) yam) (@yaa _ _ _ _ _ (@yag _ _ 5 _ _ _ _ zaF.nd rfl (Or.inr rfl) (@yad _ _ _ _ _ _ _ _ _ _ _ h_length hr (by decide) rfl (@zaa _ _ _ _ _ (pv 0) zab (by rfl)) (by decide) (by rfl) (by rfl)) (by rfl) (by first | exact .inl rfl | exact .inr rfl | assumption)) (@yaa _ _ _ _ _ (@yag _ _ 6 _ _ _ _ zaF.nd rfl (Or.inr rfl) (@yad _ _ _ _ _ _ _ _ _ _ _ h_number_power hr (by decide) rfl (@zaa _ _ _ _ _ (@zao _ _ _ _ _ _ _ zav (pv 1) yab (fun _ _ => rfl)) (@zaa _ _ _ _ _ (pv 2) zab (by rfl)) (by rfl)) (by decide) (by rfl) (by rfl)) (by rfl) (by first | exact .inl rfl | exact .inr rfl | assumption)) (@zad _ _ _ (@zaj _ _ _ _ (@zdO _ _ _ _ _ _ _ (@yad _ _ _ _ _ _ _ _ _ _ _ h_is_rising hr (by decide) rfl (@zaa _ _ _ _ _ (pv 4) (@zaa _ _ _ _ _ (pv 5) zab (by rfl)) (by rfl)) (by decide) (by rfl) (by rfl)) (@zeg _ _ _ _ _ (@yai _ _ _ _ _ _ _ _ _ (zbB rfl) rfl (B "all" (by decide)) PyProof.Rows.boot_all (@zaa _ _ _ _ _ (@zaV _ _ _ _ _ _ _ ["mark"] ["marks", "n", "q"] [4, 5, 6] _ _ _ _ (id (α := CSc ["thing", "field", "few", "root", "marks", "n", "q"] (zae ybB) ["mark"] ["marks", "n", "q"] [4, 5, 6] _) ⟨by rfl, by decide +kernel, by decide +kernel, by decide +kernel, by decide +kernel, by rfl, by decide +kernel⟩) rfl (@ycA _ _ _ _ (pv 4)) (fun cl C fp s H => (@yae _ _ 0 _ (by show List.Nodup (["mark", "marks", "n", "q"] : List Str); decide +kernel) rfl (Or.inl rfl) (by first | exact .inl rfl | exact .inr rfl | assumption))) (fun _ _ _ _ _ => zaE) (fun _ _ _ _ _ => (@ybP _ _ _ _ _ _ _ _ (ybA (K := K) rfl) (@zah _ _ _ _ _ _ _ _ zat (@zah _ _ _ _ _ _ _ _ yaK (pv 0) (pv 3)) (pv 2)) (pv 1) (by with_unfolding_all rfl))) (by intro _; rfl)) zab (by rfl)) (by decide) (by decide) (by rfl) (by rfl)))))))))))), ?_⟩
  refine ⟨_, rfl, _, "tuple", rfl, .inr ⟨rfl, _, SqT.of hW.w⟩, true, rfl, ?_⟩
  refine ite2 (fun c => absurd c (by decide)) (fun _ => ?_)
  refine ⟨_, rfl, wa, _, rfl, .inr (SqT.of hW.w), rfl, false, rfl, ?_⟩
  refine ite2 (fun c => absurd c (by decide)) (fun _ => ?_)
  dsimp only [ycr]
  refine ⟨_, rfl, wa, _, rfl, SqT.of hW.w, rfl, _, _, rfl, _, _, rfl, _, _, rfl, _, _, rfl, rfl, ?_⟩
  refine ⟨_, rfl, fa, p, m, t, rfl, hF, G, fun H1 s1 => ?_⟩
  refine ⟨true, rfl, ?_⟩
  refine ite2 (fun c => absurd c (by decide)) (fun _ => ?_)
  refine ⟨_, rfl, _, rfl, true, rfl, ?_⟩
  refine ite2 (fun c => absurd c (by decide)) (fun _ => ?_)
  refine ⟨_, rfl, _, rfl, true, rfl, ?_⟩
  refine ite2 (fun c => absurd c (by decide)) (fun _ => ?_)
  dsimp only [ycr]
  have hW1 := hW.same s1
  have hF1 := Same.tup s1 hF
  refine ⟨_, rfl, _, _, rfl, rfl, false, by show V.bl (decide ((few : Int) < 1)) = V.bl false; rw [decide_eq_false (by omega)], ?_⟩
  refine ite2 (fun c => absurd c (by decide)) (fun _ => ?_)
  refine ⟨_, rfl, fa, _, _, Vn m, rfl, rfl, hF1, rfl, _, rfl, _, _, rfl, rfl, by show (0 : Int) < (few : Int); omega, rfl, false, ?_, ?_⟩
  · show V.bl (!decide (V.int ((m : Int) % (few : Int)) = V.int 0)) = V.bl false
    rw [← Int.natCast_emod, W.fewm]; rfl
  refine ite2 (fun c => absurd c (by decide)) (fun _ => ?_)
  refine ⟨_, rfl, _, _, rfl, rfl, true, by show V.bl (decide ((0 : Int) < (root : Int))) = V.bl true; rw [decide_eq_true (by omega)], ?_⟩
  refine ite2 (fun _ => ?_) (fun c => absurd rfl c)
  refine ⟨_, rfl, fa, p, m, t, rfl, hF1, hp2, by omega, ?_⟩
  refine ⟨_, _, rfl, rfl, true, by show V.bl (decide ((root : Int) < ((p ^ m : Nat) : Int))) = V.bl true; rw [decide_eq_true (by omega)], ?_⟩
  refine ite2 (fun c => absurd c (by decide)) (fun _ => ?_)
  dsimp only [ycr]
  refine ⟨_, rfl, wa, fa, p, m, t, few, root, .ref mk, rfl, SqT.of hW1.w, hF1, G, hr0, hrq, fun n' o' _ => ?_⟩
  cases o'.uniq W.ord
  dsimp only [yaC]
  refine ⟨_, rfl, fa, _, _, Vn p, rfl, rfl, hF1, rfl, _, rfl, p, few, rfl, hp2, by omega, ?_⟩
  dsimp only [yaC]
  have hqq : p ^ few ≤ 64 := Nat.le_trans (Nat.pow_le_pow_right (by omega) hfm) hq
  refine ⟨_, rfl, _, rfl, mk, marks, n, rfl, SqT.of hW1.k, W.asc, W.lt, true, rfl, ?_⟩
  refine ite2 (fun _ => ?_) (fun c => absurd rfl c)
  refine ⟨_, rfl, mk, rfl, ⟨_, SqT.of hW1.k⟩, ?_⟩
  have hml := zbA n marks (W.asc.imp fun h => Nat.ne_of_lt h) W.lt
  refine yar (za3 (xs := marks.map Vn)) (fun k acc H' => H' = H1 ∧ acc = (List.replicate k true).map V.bl) ⟨rfl, rfl⟩ (fun k acc H' _ h => by rw [h.1]; exact SqT.of hW1.k) ?_ ?_ ?_
  · rintro k acc H' hk ⟨_, rfl⟩
    rw [List.length_map] at hk
    rw [List.length_map, List.length_replicate]; exact zak (by omega)
  · rintro k acc z Ha Hb hk ⟨rfl, rfl⟩ ⟨rfl, ez⟩
    rw [List.length_map] at hk
    rw [yaX hk] at ez
    cases ez
    have hmm : marks.getD k 0 ∈ marks := by simp [List.getD, hk]
    generalize marks.getD k 0 = x at hmm ⊢
    have hxn := W.lt x hmm
    refine ⟨_, rfl, _, rfl, _, _, rfl, rfl, .inl ⟨by show -(2 ^ 64 : Int) < (x : Int); omega, by show (x : Int) < 2 ^ 64; omega⟩, _, rfl, _, _, rfl, rfl, by show (0 : Int) < (n : Int); omega, ?_⟩
    refine ⟨_, rfl, mk, _, rfl, .inr (SqT.of hW1.k), rfl, zbb marks, rfl, ?_⟩
    have e : inV (V.int ((x : Int) * ((p ^ few : Nat) : Int) % (n : Int))) (marks.map Vn) = true := by
      have h := zbu (x * p ^ few % n) marks
      rw [decide_eq_true (W.closed x hmm)] at h
      exact h
    show _ = (List.replicate (k + 1) true).map V.bl
    rw [List.replicate_succ', List.map_append]
    show _ ++ [V.bl (inV (V.int ((x : Int) * ((p ^ few : Nat) : Int) % (n : Int))) (marks.map Vn))] = _
    rw [e]; rfl
  · rintro acc Ha ⟨rfl, rfl⟩ D hD
    refine ⟨D, _, rfl, SqL.of zac, ?_⟩
    show Q (V.bl (List.all _ id)) _
    rw [show (List.replicate (marks.map Vn).length true).all id = true by simp]
    exact q _ (s1.trans (yac hD _))
end
noncomputable def LTup (n q : Nat) (H : Hp) (ds : List Addr) : Prop := ∀ (i : Nat) d, ds[i]? = some d → ∃ rs : List Nat, H d = some (.lst (rs.map Vn)) ∧ rs.length ≤ 6 ∧ (∀ x, x ∈ rs ↔ x ∈ orbL n q i)
theorem LTup.same {n q : Nat} {H H' : Hp} {ds : List Addr} (h : LTup n q H ds) (s : Same H H') : LTup n q H' ds := fun i d e => by obtain ⟨rs, a, b⟩ := h i d e; exact ⟨rs, s _ _ a, b⟩
section
variable {P : Program} {w : World} {K : PySem.W.Frag} {mg : Str → Option Value} {base : Heap} {f : Addr} {fd : FuncData}
noncomputable def zcY : Sp := fun vs H Q _ => ∃ (tb fa pa la wh mk : Addr) (p m t b few root n fewer : Nat) (marks : List Nat), vs = [.ref tb, .ref wh, Vn fewer] ∧ Tab H tb fa pa la p m t b ∧ WhAt H wh fa mk few root marks ∧ Whl p m t fewer root n [] ∧ n ≤ 63 ∧
  ∀ r (ds : List Addr) H', Same H H' → H' r = some (.lst (ds.map V.ref)) → ds.length = n → LTup n (p ^ fewer) H' ds → Q (.ref r) H'
theorem zbi : yaj ["_law_table_here", "_law_wheel_here", "_law_fewer", "_law_n", "_law_q"] ["_law_table_here", "_law_wheel_here", "_law_fewer"] (zae ya4) := ⟨rfl, rfl, rfl, by decide +kernel, rfl, by decide +kernel, by decide +kernel⟩
theorem zeS (B : Bl mg) (h__law_round : Has P w K mg base 2 "_law_round" ["_law_table_here", "_law_one"] ycb) (h__law_raised : Has P w K mg base 1 "_law_raised" ["_law_one", "_law_many"] yal) (h__law_ring : Has P w K mg base 1 "_law_ring" ["_law_i", "_law_n", "_law_q"] zb4) (F : Fun K "_law_rings" "_law_rings" ya4 f fd) : FnOk P w K mg base CX0 3 f fd ["_law_table_here", "_law_wheel_here", "_law_fewer"] zcY := by
  refine F.ok zbi (fun vs H Q E h => ?_) (fun cdv A outer s H vs Q E hr h => ?_)
  · obtain ⟨tb, fa, pa, la, wh, mk, p, m, t, b, few, root, n, fewer, marks, rfl, _⟩ := h; rfl
  obtain ⟨tb, fa, pa, la, wh, mk, p, m, t, b, few, root, n, fewer, marks, rfl, T, hW, W, hn, q⟩ := h
  have G := T.good
  have hp := G.hp
  have hm := G.hm
  have hq := G.hq
  have hp2 := p_le hp hm hq
  have hm6 := m_le hp hq
  have hn0 := W.ord.pos
  have hf1 := W.few1
  have hfm : fewer ≤ m := Nat.le_of_dvd (by omega) (Nat.dvd_of_mod_eq_zero W.fewm)
  have hqq : p ^ fewer ≤ 64 := Nat.le_trans (Nat.pow_le_pow_right (by omega) hfm) hq
  have he1 : 1 ≤ m / fewer := Nat.div_pos hfm (by omega)
  have he2 : m / fewer ≤ 6 := Nat.le_trans (Nat.div_le_self _ _) hm6
  have hrnd := W.ord.round G W.r0 W.rq W.fewm hf1
  refine ⟨_, (@yaa _ _ _ _ _ (@yaS _ _ _ _ _ _ (@ybb _ _ _ _ _ (@zaa _ _ _ _ _ (@yad _ _ _ _ _ _ _ _ _ _ _ h__law_round hr (by decide) rfl (@zaa _ _ _ _ _ (pv 0) (@zaa _ _ _ _ _ (@zao _ _ _ _ _ _ _ zav (pv 1) yab (fun _ _ => rfl)) zab (by rfl)) (by rfl)) (by decide) (by rfl) (by rfl)) (@zaa _ _ _ _ _ (@yad _ _ _ _ _ _ _ _ _ _ _ h__law_raised hr (by decide) rfl (@zaa _ _ _ _ _ (@zaS _ _ _ _ _ _ (yb0 hr) (pv 0) zaT (fun _ _ => rfl)) (@zaa _ _ _ _ _ (pv 2) zab (by rfl)) (by rfl)) (by decide) (by rfl) (by rfl)) zab (by rfl)) (by rfl))) (@zaQ _ _ _ _ _ _ rfl (@yaf _ _ _ _ _ (@yae _ _ 3 _ zbi.nd rfl (Or.inr rfl) (by first | exact .inl rfl | exact .inr rfl | assumption)) (@yaf _ _ _ _ _ (@yae _ _ 4 _ zbi.nd rfl (Or.inr rfl) (by first | exact .inl rfl | exact .inr rfl | assumption)) zax (by rfl)) (by rfl)) (by rfl) (by rfl)) (by rfl) (by rfl) (by rfl)) (@zad _ _ _ (@zaj _ _ _ _ (@zaV _ _ _ _ _ _ _ ["_law_number_here"] ["_law_n", "_law_q"] [3, 4] _ _ _ _ (id (α := CSc ["_law_table_here", "_law_wheel_here", "_law_fewer", "_law_n", "_law_q"] (zae ya4) ["_law_number_here"] ["_law_n", "_law_q"] [3, 4] _) ⟨by rfl, by decide +kernel, by decide +kernel, by decide +kernel, by decide +kernel, by rfl, by decide +kernel⟩) rfl (@zaD _ _ _ _ _ _ rfl (B "range" (by decide)) (@zaa _ _ _ _ _ (pv 3) zab (by rfl)) (by rfl)) (fun cl C fp s H => (@yae _ _ 0 _ (by show List.Nodup (["_law_number_here", "_law_n", "_law_q"] : List Str); decide +kernel) rfl (Or.inl rfl) (by first | exact .inl rfl | exact .inr rfl | assumption))) (fun _ _ _ _ _ => zaE) (fun _ _ _ _ _ => (@yad _ _ _ _ _ _ _ _ _ _ _ h__law_ring hr (by decide) rfl (@zaa _ _ _ _ _ (pv 0) (@zaa _ _ _ _ _ (pv 1) (@zaa _ _ _ _ _ (pv 2) zab (by rfl)) (by rfl)) (by rfl)) (by decide) (by rfl) (by rfl))) (by intro _; rfl))))), ?_⟩
  refine ⟨_, rfl, _, rfl, wh, _, _, Vn root, rfl, rfl, SqT.of hW.w, rfl, tb, fa, pa, la, p, m, t, b, root, rfl, T, W.r0, W.rq, fun n' o' hn' => ?_⟩
  cases o'.uniq W.ord
  refine ⟨_, rfl, tb, _, rfl, T.get yfJ, _, rfl, p, fewer, rfl, hp2, by omega, ?_⟩
  refine ⟨szl 2, fun tp htp => ?_⟩
  have s1 := yac htp (.tup [Vn n, Vn (p ^ fewer)])
  refine ⟨tp, _, rfl, SqT.of zac, rfl, _, _, rfl, _, _, rfl, rfl, ?_⟩
  generalize upd H tp (.tup [Vn n, Vn (p ^ fewer)]) = H1 at s1 ⊢
  refine ⟨_, rfl, (n : Int), rfl, by omega, by omega, ?_⟩
  refine yar zbe (fun k acc H' => Same H1 H' ∧ ∃ ds : List Addr, acc = ds.map V.ref ∧ ds.length = k ∧ LTup n (p ^ fewer) H' ds) ⟨Same.refl _, [], rfl, rfl, fun i d e => by simp at e⟩ (fun _ _ _ _ _ => trivial) ?_ ?_ ?_
  · rintro k acc H' hk ⟨_, ds, rfl, hl, _⟩
    rw [Int.toNat_natCast] at hk
    rw [List.length_map, hl]; exact zak (by omega)
  · rintro k acc x Ha Hb hk ⟨sa, ds, rfl, hl, hT⟩ ⟨rfl, rfl⟩
    rw [Int.toNat_natCast] at hk
    refine ⟨_, rfl, _, rfl, _, rfl, k, n, p ^ fewer, m / fewer, by rw [Int.zero_add]; rfl, by omega, by omega, hqq, he1, he2, hrnd, fun rg rs Hc sc nrg erg h1 h2 h3 h4 h5 h6 h7 => ?_⟩
    refine ⟨sa.trans sc, ds ++ [rg], by rw [List.map_append]; rfl, by rw [List.length_append, hl]; rfl, fun i d e => ?_⟩
    rw [List.getElem?_append] at e
    split at e
    · obtain ⟨rs', a, b⟩ := hT i d e
      exact ⟨rs', sc _ _ a, b⟩
    · rename_i hi
      have hi2 : i = ds.length := by
        have := (List.getElem?_eq_some_iff.mp e).1
        simp at this; omega
      subst hi2
      simp at e
      subst e
      refine ⟨rs, erg, h2, fun x => ?_⟩
      rw [hl, yaF (by omega)]
      exact ⟨h6 x, fun ⟨j, e⟩ => e ▸ h7 j⟩
  · rw [Int.toNat_natCast]
    rintro acc Ha ⟨sa, ds, rfl, hl, hT⟩ D hD
    have sD := yac hD (.lst (ds.map V.ref))
    exact q D ds _ (s1.trans (sa.trans sD)) zac hl (hT.same sD)
end
noncomputable def mrL (tr : Bool) (n q : Nat) (M : List Nat) : List Nat := if tr then traL n q M else fewL n q M
noncomputable def mrP (tr : Bool) (n q : Nat) (M : List Nat) (x : Nat) : Bool := if tr then (orbL n q x).all (fun i => decide (i ∈ M)) else (orbL n q x).any (fun i => decide (i ∈ M))
theorem zfL (tr : Bool) (n q : Nat) (M : List Nat) : mrL tr n q M = (List.range n).filter (mrP tr n q M) := by
  cases tr <;> rfl
theorem zfM {tr : Bool} {n q x : Nat} {M rs : List Nat} (hn : 0 < n) (h : ∀ y, y ∈ rs ↔ y ∈ orbL n q x) : ((rs.map fun i => decide (i ∈ M)).all id || (!tr && (rs.map fun i => decide (i ∈ M)).any id)) = mrP tr n q M x := by
  have e1 : (rs.map fun i => decide (i ∈ M)).all id = (orbL n q x).all fun i => decide (i ∈ M) := by
    rw [List.all_map, Bool.eq_iff_iff, List.all_eq_true, List.all_eq_true]
    exact ⟨fun g u hu => g u ((h u).mpr hu), fun g u hu => g u ((h u).mp hu)⟩
  have e2 : (rs.map fun i => decide (i ∈ M)).any id = (orbL n q x).any fun i => decide (i ∈ M) := by
    rw [List.any_map, Bool.eq_iff_iff, List.any_eq_true, List.any_eq_true]
    exact ⟨fun ⟨u, hu, g⟩ => ⟨u, (h u).mp hu, g⟩, fun ⟨u, hu, g⟩ => ⟨u, (h u).mpr hu, g⟩⟩
  rw [e1, e2]
  cases tr with
  | true => show (_ || (false && _)) = List.all _ _; rw [Bool.false_and, Bool.or_false]
  | false =>
    show (_ || (true && _)) = List.any _ _
    rw [Bool.true_and]
    obtain ⟨y, tl, e⟩ := zcG (q := q) (s := x) hn
    rw [e, List.all_cons, List.any_cons]
    cases decide (y ∈ M) <;> simp
section
variable {p m t : Nat} (G : Good p m t)
include G
theorem zfr {fewer root n : Nat} {M : List Nat} (W : Whl p m t fewer root n []) : Whl p m t fewer root n (fewL n (p ^ fewer) M) :=
  ⟨W.few1, W.fewm, W.r0, W.rq, W.ord, W.nq, yei _ _ _, fun x hx => ((zeC W.ord.pos).mp hx).1, fun x hx => by
    obtain ⟨h, j, hj⟩ := (zeC W.ord.pos).mp hx
    have hn := W.ord.pos
    refine (zeC hn).mpr ⟨Nat.mod_lt _ hn, ?_⟩
    have hb := ycQ G W h ((yaF hn).mpr ⟨1, rfl⟩)
    obtain ⟨i, e⟩ := (yaF hn).mp hb
    rw [Nat.pow_one] at e
    refine ⟨i + j, ?_⟩
    rw [Nat.pow_add, ← Nat.mul_assoc, ← Nat.mod_mul_mod, ← e]
    exact hj⟩
theorem yfE {fewer root n : Nat} {M : List Nat} (W : Whl p m t fewer root n []) : Whl p m t fewer root n (traL n (p ^ fewer) M) :=
  ⟨W.few1, W.fewm, W.r0, W.rq, W.ord, W.nq, yeh _ _ _, fun x hx => ((yed W.ord.pos).mp hx).1, fun x hx => by
    obtain ⟨h, hj⟩ := (yed W.ord.pos).mp hx
    have hn := W.ord.pos
    refine (yed hn).mpr ⟨Nat.mod_lt _ hn, fun j => ?_⟩
    have := hj (1 + j)
    rw [← yfv, Nat.pow_one] at this
    exact this⟩
end
section
variable {P : Program} {w : World} {K : PySem.W.Frag} {mg : Str → Option Value} {base : Heap} {f : Addr} {fd : FuncData}
noncomputable def ycW (K : PySem.W.Frag) : Sp := fun vs H Q _ => ∃ (tb fa pa la wh mk : Addr) (p m t b few root n fewer : Nat) (marks : List Nat) (tr : Bool), vs = [.ref tb, .ref wh, Vn fewer, .bl tr] ∧ Tab H tb fa pa la p m t b ∧ WhAt H wh fa mk few root marks ∧ Whl p m t fewer root n [] ∧ n ≤ 63 ∧
  ∀ r H', Same H H' → H' r = some (.tup ((mrL tr n (p ^ fewer) marks).map Vn)) → Q (.ref r) H'
theorem yaI : yaj ["_law_table_here", "_law_wheel_here", "_law_fewer", "_law_traced", "_law_found", "_law_number_here", "_law_ring_here", "_law_marked"] ["_law_table_here", "_law_wheel_here", "_law_fewer", "_law_traced"] (zae ya1) := ⟨rfl, rfl, rfl, by decide +kernel, rfl, by decide +kernel, by decide +kernel⟩
theorem yem (B : Bl mg) (h__law_rings : Has P w K mg base 3 "_law_rings" ["_law_table_here", "_law_wheel_here", "_law_fewer"] zcY) (F : Fun K "_law_marks" "_law_marks" ya1 f fd) : FnOk P w K mg base CX0 4 f fd ["_law_table_here", "_law_wheel_here", "_law_fewer", "_law_traced"] (ycW K) := by
  refine F.ok yaI (fun vs H Q E h => ?_) (fun cdv A outer s H vs Q E hr h => ?_)
  · obtain ⟨tb, fa, pa, la, wh, mk, p, m, t, b, few, root, n, fewer, marks, tr, rfl, _⟩ := h; rfl
  obtain ⟨tb, fa, pa, la, wh, mk, p, m, t, b, few, root, n, fewer, marks, tr, rfl, T, hW, W, hn, q⟩ := h
  have hn0 := W.ord.pos
  refine ⟨_, (@yaa _ _ _ _ _ (@yag _ _ 4 _ _ _ _ yaI.nd rfl (Or.inl rfl) (@zaR _ _ _ _ zab) (by rfl) (by first | exact .inl rfl | exact .inr rfl | assumption)) (@yaa _ _ _ _ _ (@zaG _ _ _ _ _ _ _ _ PassesOwn.never rfl (@ycm _ _ _ _ _ _ _ _ rfl (B "enumerate" (by decide)) (@zaa _ _ _ _ _ (@yad _ _ _ _ _ _ _ _ _ _ _ h__law_rings hr (by decide) rfl (@zaa _ _ _ _ _ (pv 0) (@zaa _ _ _ _ _ (pv 1) (@zaa _ _ _ _ _ (pv 2) zab (by rfl)) (by rfl)) (by rfl)) (by decide) (by rfl) (by rfl)) zab (by rfl)) (by rfl)) (@zaQ _ _ _ _ _ _ rfl (@yaf _ _ _ _ _ (@yae _ _ 5 _ yaI.nd rfl (Or.inl rfl) (by first | exact .inl rfl | exact .inr rfl | assumption)) (@yaf _ _ _ _ _ (@yae _ _ 6 _ yaI.nd rfl (Or.inl rfl) (by first | exact .inl rfl | exact .inr rfl | assumption)) zax (by rfl)) (by rfl)) (by rfl) (by rfl)) (@yaa _ _ _ _ _ (@ybg _ 7 _ _ _ _ _ _ _ _ _ ["_law_one"] ["_law_wheel_here"] [1] _ _ _ _ yaI.nd rfl (Or.inl rfl) (id (α := CSc ["_law_table_here", "_law_wheel_here", "_law_fewer", "_law_traced", "_law_found", "_law_number_here", "_law_ring_here", "_law_marked"] (zae ya1) ["_law_one"] ["_law_wheel_here"] [1] _) ⟨by rfl, by decide +kernel, by decide +kernel, by decide +kernel, by decide +kernel, by rfl, by decide +kernel⟩) rfl (@zbv _ _ _ _ (pv 6)) (fun cl C fp s H => (@yae _ _ 0 _ (by show List.Nodup (["_law_one", "_law_wheel_here"] : List Str); decide +kernel) rfl (Or.inl rfl) (by first | exact .inl rfl | exact .inr rfl | assumption))) (fun _ _ _ _ _ => zaE) (fun _ _ _ _ _ => (@ybP _ _ _ _ _ _ _ _ (ybA (K := K) rfl) (pv 0) (@zao _ _ _ _ _ _ _ (zbH (K := K) rfl) (pv 1) yab (fun _ _ => rfl)) (by with_unfolding_all rfl))) (by rfl) (by intro _; rfl) (by first | exact .inl rfl | exact .inr rfl | assumption)) (@zad _ _ _ (@zaC _ _ _ _ _ _ _ _ (@PW.pt _ _ _ (@zbE _ _ _ _ _ _ _ (@zaH _ _ _ (@yai _ _ _ _ _ _ _ _ _ (zbB rfl) rfl (B "all" (by decide)) PyProof.Rows.boot_all (@zaa _ _ _ _ _ (pv 7) zab (by rfl)) (by decide) (by decide) (by rfl) (by rfl)) (by intro _; rfl)) (@za1 _ _ _ _ (@PW.pt _ _ _ (@ydK _ _ _ _ _ _ _ (@zaP _ _ _ _ (@zaH _ _ _ (pv 3) (by intro _; rfl))) (@zdw _ _ _ _ (@zaH _ _ _ (@yai _ _ _ _ _ _ _ _ _ (zdC rfl) rfl (B "any" (by decide)) zcc (@zaa _ _ _ _ _ (pv 7) zab (by rfl)) (by decide) (by decide) (by rfl) (by rfl)) (by intro _; rfl)))))))) (@zad _ _ _ (@yby _ _ _ _ (@zc8 _ _ _ _ _ _ _ _ _ _ _ _ PySem.F.plainAttrs_list PySem.F.slot_list_append PySem.F.type_list_append yaY (pv 4) (@zaa _ _ _ _ _ (pv 5) zab (by rfl)) (by rfl) (by rfl) (by rfl) (by rfl) (by rfl)) (by rfl))) yam))) (by intro _; rfl)) (@zad _ _ _ (@zaj _ _ _ _ (@zaY _ _ _ _ _ _ _ _ _ yaL rfl (B "tuple" (by decide)) yao (@zaa _ _ _ _ _ (pv 4) zab (by rfl)) (by decide) (by decide) (by rfl) (by rfl)))))), ?_⟩
  refine ⟨szl 0, fun l hl => ?_⟩
  have s1 := yac hl (.lst [])
  have el : upd H l (.lst []) l = some (.lst (([] : List Nat).map Vn)) := zac
  dsimp only [yaC]
  change tSeq _ _ _ _ (upd H l (.lst []))
  generalize upd H l (.lst []) = H1 at s1 el ⊢
  refine ⟨_, rfl, _, rfl, _, rfl, tb, fa, pa, la, wh, mk, p, m, t, b, few, root, n, fewer, marks, rfl, T.same s1, hW.same s1, W, hn, fun r ds H2 s2 er hdl hT => ?_⟩
  have el2 := s2 _ _ el
  have nrl : r ≠ l := fun e => by
    rw [e, el2] at er
    cases ds with
    | nil => simp at hdl; omega
    | cons d ds => cases er
  refine ⟨false, r, rfl, ⟨_, SqL.of er⟩, ?_⟩
  refine zbV (zbw (b := false) (xs := ds.map V.ref)) (fun i σ' H' => Same H H' ∧ (∀ (b : Addr) o, b ≠ l → H2 b = some o → H' b = some o) ∧ ∃ (v5 v6 v7 : Option V), H' l = some (.lst (((List.range i).filter (mrP tr n (p ^ fewer) marks)).map Vn)) ∧ σ' = [some (.ref tb), some (.ref wh), some (Vn fewer), some (.bl tr), some (.ref l), v5, v6, v7]) ⟨s1.trans s2, fun b o _ h => h, none, none, none, el2, rfl⟩ (fun i σ' H' _ h => SqL.of (h.2.1 _ _ nrl er)) ?_ ?_
  · rintro i z σ' Ha Hb hi ⟨sa, ka, v5, v6, v7, ea, rfl⟩ ⟨Tt, u, rfl, eu, hTt, rfl⟩
    rw [List.length_map] at hi
    rw [List.getElem?_map, List.getElem?_eq_getElem hi] at eu
    cases eu
    obtain ⟨rs, hrs, hrl, hro⟩ := hT i _ (List.getElem?_eq_getElem hi)
    have nd : ds[i] ≠ l := fun e => by
      rw [e, el2] at hrs
      have : rs = [] := by
        cases rs with
        | nil => rfl
        | cons _ _ => cases hrs
      have h1 := (hro (i * (p ^ fewer) ^ 0 % n)).mpr ((yaF hn0).mpr ⟨0, rfl⟩)
      rw [this] at h1; cases h1
    have hrsa := ka _ _ nd hrs
    generalize ds[i] = d at hrs hrsa ⊢
    have sT := yac hTt (.tup [.int (i : Int), .ref d])
    have hrsb := sT _ _ hrsa
    have hWb := hW.same (sa.trans sT)
    refine ⟨Tt, _, rfl, SqT.of zac, rfl, _, _, rfl, _, _, rfl, rfl, ?_⟩
    generalize upd Ha Tt (.tup [.int (i : Int), .ref d]) = Hb at sT hrsb hWb ⊢
    refine ⟨_, rfl, d, rfl, ⟨_, SqL.of hrsb⟩, ?_⟩
    refine yar (zbd (xs := rs.map Vn)) (fun j acc H' => H' = Hb ∧ acc = ((rs.take j).map fun i => decide (i ∈ marks)).map V.bl) ⟨rfl, rfl⟩ (fun j acc H' _ h => by rw [h.1]; exact SqL.of hrsb) ?_ ?_ ?_
    · rintro j acc H' hj ⟨_, rfl⟩
      rw [List.length_map, List.length_map, List.length_take]; exact zak (by omega)
    · rintro j acc x Hx Hy hj ⟨rfl, rfl⟩ ⟨rfl, ez⟩
      rw [List.length_map] at hj
      rw [yaX hj] at ez
      cases ez
      refine ⟨_, rfl, _, rfl, wh, _, _, .ref mk, rfl, rfl, SqT.of hWb.w, rfl, mk, _, rfl, .inr (SqT.of hWb.k), rfl, zbb marks, ?_⟩
      rw [zbu, yaz (d := 0) hj, List.map_append, List.map_append]
      exact ⟨rfl, rfl⟩
    · rw [List.length_map, List.take_length]
      rintro acc Hx ⟨rfl, rfl⟩ D hD
      have sD := yac hD (.lst ((rs.map fun i => decide (i ∈ marks)).map V.bl))
      have hD2 : upd Hx D (.lst ((rs.map fun i => decide (i ∈ marks)).map V.bl)) D = some (.lst ((rs.map fun i => decide (i ∈ marks)).map V.bl)) := zac
      dsimp only [yaC]
      change tIfS _ _ _ _ _ (upd Hx D (.lst ((rs.map fun i => decide (i ∈ marks)).map V.bl)))
      generalize upd Hx D (.lst ((rs.map fun i => decide (i ∈ marks)).map V.bl)) = Hy at sD hD2 ⊢
      have eP := zfM (tr := tr) (M := marks) hn0 hro
      generalize (rs.map fun i => decide (i ∈ marks)) = bs at hD2 eP
      have s9 := sT.trans sD
      have e9 := s9 _ _ ea
      have st : (List.range (i + 1)).filter (mrP tr n (p ^ fewer) marks) = (List.range i).filter (mrP tr n (p ^ fewer) marks) ++ (if mrP tr n (p ^ fewer) marks i = true then [i] else []) := by
        rw [List.range_succ, List.filter_append, List.filter_cons, List.filter_nil]
      rw [st]
      have hfl := List.length_filter_le (mrP tr n (p ^ fewer) marks) (List.range i)
      rw [List.length_range] at hfl
      rw [hdl] at hi
      refine ⟨_, rfl, D, bs, rfl, SqL.of hD2, _, rfl, ?_⟩
      refine ite2 (fun c => ?_) (fun c => ?_)
      · refine ite2 (fun _ => ?_) (fun c => absurd rfl c)
        have cP : mrP tr n (p ^ fewer) marks i = true := by rw [← eP, Bool.or_eq_true]; exact .inl c
        rw [if_pos cP]
        refine ⟨_, rfl, .inl ⟨rfl, _, SqL.of e9⟩, _, rfl, l, _, _, rfl, rfl, e9, by rw [List.length_map]; exact zak (by omega), ?_⟩
        exact ⟨ycN (sa.trans s9) hl, fun b o hb h => by rw [zag hb]; exact s9 _ _ (ka b o hb h), _, _, _, by rw [zac, List.map_append]; rfl, rfl⟩
      · have c1 : bs.all id = false := Bool.eq_false_iff.mpr c
        rw [c1, Bool.false_or] at eP
        refine ⟨_, rfl, tr, rfl, ?_⟩
        cases htr : tr with
        | true =>
          refine ite2 (fun c => absurd c (by decide)) (fun _ => ?_)
          refine ite2 (fun c => absurd c (by decide)) (fun _ => ?_)
          rw [htr] at eP ea e9
          have cP : ¬ mrP true n (p ^ fewer) marks i = true := by rw [← eP]; exact Bool.false_ne_true
          rw [if_neg cP, List.append_nil]
          exact ⟨sa.trans s9, fun b o hb h => s9 _ _ (ka b o hb h), _, _, _, e9, rfl⟩
        | false =>
          rw [htr] at eP ea e9
          rw [show (!false && bs.any id) = bs.any id from rfl] at eP
          refine ite2 (fun _ => ?_) (fun c => absurd rfl c)
          refine ⟨_, rfl, D, bs, rfl, SqL.of hD2, _, rfl, ?_⟩
          refine ite2 (fun c2 => ?_) (fun c2 => ?_)
          · have cP : mrP false n (p ^ fewer) marks i = true := by rw [← eP]; exact c2
            rw [if_pos cP]
            rw [htr] at hfl
            refine ⟨_, rfl, .inl ⟨rfl, _, SqL.of e9⟩, _, rfl, l, _, _, rfl, rfl, e9, by rw [List.length_map]; exact zak (by omega), ?_⟩
            exact ⟨ycN (sa.trans s9) hl, fun b o hb h => by rw [zag hb]; exact s9 _ _ (ka b o hb h), _, _, _, by rw [zac, List.map_append]; rfl, rfl⟩
          · have cP : ¬ mrP false n (p ^ fewer) marks i = true := by rw [← eP]; exact c2
            rw [if_neg cP, List.append_nil]
            exact ⟨sa.trans s9, fun b o hb h => s9 _ _ (ka b o hb h), _, _, _, e9, rfl⟩
  · rw [List.length_map, hdl, ← zfL]
    rintro σ' Ha ⟨sa, ka, v5, v6, v7, ea, rfl⟩
    refine ⟨_, rfl, l, _, rfl, .inl ⟨SqL.of ea, fun r2 hr2 => ?_⟩⟩
    exact q r2 _ (sa.trans (yac hr2 _)) zac
end
theorem ye6 {K : PySem.W.Frag} {H H' : Hp} {a : Addr} {xs : List V} (e : Same H H') (h : SqL K H a xs) : SqL K H' a xs := by
  rcases h with (h | ⟨o, h⟩) | h
  · exact .inl (.inl (e _ _ h))
  · exact .inl (.inr ⟨o, e _ _ h⟩)
  · exact .inr h
theorem zfv {p m t few root n f : Nat} {marks : List Nat} (W : Whl p m t few root n marks) (h1 : 1 ≤ f) (h2 : few % f = 0) : Whl p m t f root n [] :=
  ⟨h1, Nat.mod_eq_zero_of_dvd (Nat.dvd_trans (Nat.dvd_of_mod_eq_zero h2) (Nat.dvd_of_mod_eq_zero W.fewm)), W.r0, W.rq, W.ord, W.nq, List.Pairwise.nil, (fun x hx => nomatch hx), (fun x hx => nomatch hx)⟩
section
variable {P : Program} {w : World} {K : PySem.W.Frag} {mg : Str → Option Value} {base : Heap} {f : Addr} {fd : FuncData}
noncomputable def yc6 (K : PySem.W.Frag) : Sp := fun vs H Q _ => ∃ (a : Addr) (ns : List Int), vs = [.ref a] ∧ SqL K H a (ns.map V.int) ∧ ∀ H', Q (.bl true) H'
theorem zbN : yaj ["_law_script", "_law_purse_here", "_law_turn", "_law_table_here", "_law_wheel_here", "_law_fewer", "_law_due", "_law_traced", "_law_again"] ["_law_script"] (zae zdu) := ⟨rfl, rfl, rfl, by decide +kernel, rfl, by decide +kernel, by decide +kernel⟩
theorem yf4 (B : Bl mg) (h__law_purse : Has P w K mg base 1 "_law_purse" ["_law_script"] (zdD K)) (h__law_wide_wheel : Has P w K mg base 6 "_law_wide_wheel" ["_law_purse_here", "_law_most"] ydF) (h__law_marks : Has P w K mg base 4 "_law_marks" ["_law_table_here", "_law_wheel_here", "_law_fewer", "_law_traced"] (ycW K)) (h__law_same : Has P w K mg base 3 "_law_same" ["_law_found", "_law_due"] (zbo K 3)) (h_few_of : Has P w K mg base 7 "few_of" ["wheel", "fewer"] (yfm K)) (h_traced_of : Has P w K mg base 7 "traced_of" ["wheel", "fewer"] (yfi K)) (h_is_wheel : Has P w K mg base 7 "is_wheel" ["thing"] (zcz K)) (F : Fun K "law" "law" zdu f fd) : FnOk P w K mg base CX0 8 f fd ["_law_script"] (yc6 K) := by
  refine F.ok zbN (fun vs H Q E h => ?_) (fun cdv A outer s H vs Q E hr h => ?_)
  · obtain ⟨a, ns, rfl, _⟩ := h; rfl
  obtain ⟨a, ns, rfl, ha, q⟩ := h
  refine ⟨_, (@yaa _ _ _ _ _ (@yag _ _ 1 _ _ _ _ zbN.nd rfl (Or.inl rfl) (@yad _ _ _ _ _ _ _ _ _ _ _ h__law_purse hr (by decide) rfl (@zaa _ _ _ _ _ (pv 0) zab (by rfl)) (by decide) (by rfl) (by rfl)) (by rfl) (by first | exact .inl rfl | exact .inr rfl | assumption)) (@yaa _ _ _ _ _ (@zaG _ _ _ _ _ _ _ _ PassesOwn.never rfl (@zaD _ _ _ _ _ _ rfl (B "range" (by decide)) (@zaa _ _ _ _ _ (@yai _ _ _ _ _ _ _ _ _ (zer rfl) rfl (B "max" (by decide)) zcd (@zaa _ _ _ _ _ yab (@zaa _ _ _ _ _ (@yai _ _ _ _ _ _ _ _ _ (yc4 rfl) rfl (B "min" (by decide)) ycd (@zaa _ _ _ _ _ yab (@zaa _ _ _ _ _ (@yai _ _ _ _ _ _ _ _ _ zar rfl (B "len" (by decide)) PySem.boot_len (@zaa _ _ _ _ _ (pv 0) zab (by rfl)) (by decide) (by decide) (by rfl) (by rfl)) zab (by rfl)) (by rfl)) (by decide) (by decide) (by rfl) (by rfl)) zab (by rfl)) (by rfl)) (by decide) (by decide) (by rfl) (by rfl)) zab (by rfl)) (by rfl)) (@yae _ _ 2 _ zbN.nd rfl (Or.inl rfl) (by first | exact .inl rfl | exact .inr rfl | assumption)) (@yaa _ _ _ _ _ (@yaS _ _ _ _ _ _ (@yad _ _ _ _ _ _ _ _ _ _ _ h__law_wide_wheel hr (by decide) rfl (@zaa _ _ _ _ _ (pv 1) (@zaa _ _ _ _ _ yab zab (by rfl)) (by rfl)) (by decide) (by rfl) (by rfl)) (@zaQ _ _ _ _ _ _ rfl (@yaf _ _ _ _ _ (@yae _ _ 3 _ zbN.nd rfl (Or.inl rfl) (by first | exact .inl rfl | exact .inr rfl | assumption)) (@yaf _ _ _ _ _ (@yae _ _ 4 _ zbN.nd rfl (Or.inl rfl) (by first | exact .inl rfl | exact .inr rfl | assumption)) (@yaf _ _ _ _ _ (@yae _ _ 5 _ zbN.nd rfl (Or.inl rfl) (by first | exact .inl rfl | exact .inr rfl | assumption)) zax (by rfl)) (by rfl)) (by rfl)) (by rfl) (by rfl)) (by rfl) (by rfl) (by rfl)) (@yaa _ _ _ _ _ (@yag _ _ 6 _ _ _ _ zbN.nd rfl (Or.inl rfl) (@zah _ _ _ _ _ _ _ _ zd7 (@yb5 _ _ _ _ _ _ _ _ _ _ zek (pv 4) zcO (@zcJ _ _ _ yab)) (@ybb _ _ _ _ _ (@zaa _ _ _ _ _ (pv 5) (@zaa _ _ _ _ _ (@zao _ _ _ _ _ _ _ zav (pv 4) yab (fun _ _ => rfl)) (@zaa _ _ _ _ _ (@yad _ _ _ _ _ _ _ _ _ _ _ h__law_marks hr (by decide) rfl (@zaa _ _ _ _ _ (pv 3) (@zaa _ _ _ _ _ (pv 4) (@zaa _ _ _ _ _ (pv 5) (@zaa _ _ _ _ _ yaT zab (by rfl)) (by rfl)) (by rfl)) (by rfl)) (by decide) (by rfl) (by rfl)) zab (by rfl)) (by rfl)) (by rfl)))) (by rfl) (by first | exact .inl rfl | exact .inr rfl | assumption)) (@yaa _ _ _ _ _ (@yag _ _ 7 _ _ _ _ zbN.nd rfl (Or.inl rfl) (@zah _ _ _ _ _ _ _ _ zd7 (@yb5 _ _ _ _ _ _ _ _ _ _ zek (pv 4) zcO (@zcJ _ _ _ yab)) (@ybb _ _ _ _ _ (@zaa _ _ _ _ _ (pv 5) (@zaa _ _ _ _ _ (@zao _ _ _ _ _ _ _ zav (pv 4) yab (fun _ _ => rfl)) (@zaa _ _ _ _ _ (@yad _ _ _ _ _ _ _ _ _ _ _ h__law_marks hr (by decide) rfl (@zaa _ _ _ _ _ (pv 3) (@zaa _ _ _ _ _ (pv 4) (@zaa _ _ _ _ _ (pv 5) (@zaa _ _ _ _ _ yaT zab (by rfl)) (by rfl)) (by rfl)) (by rfl)) (by decide) (by rfl) (by rfl)) zab (by rfl)) (by rfl)) (by rfl)))) (by rfl) (by first | exact .inl rfl | exact .inr rfl | assumption)) (@yaa _ _ _ _ _ (@zaG _ _ _ _ _ _ _ _ PassesOwn.never rfl (@zaD _ _ _ _ _ _ rfl (B "range" (by decide)) (@zaa _ _ _ _ _ yab zab (by rfl)) (by rfl)) (@yae _ _ 8 _ zbN.nd rfl (Or.inl rfl) (by first | exact .inl rfl | exact .inr rfl | assumption)) (@zad _ _ _ (@zaC _ _ _ _ _ _ _ _ (@PW.pt _ _ _ (@zbE _ _ _ _ _ _ _ (@zaP _ _ _ _ (@zaH _ _ _ (@yad _ _ _ _ _ _ _ _ _ _ _ h__law_same hr (by decide) rfl (@zaa _ _ _ _ _ (@yad _ _ _ _ _ _ _ _ _ _ _ h_few_of hr (by decide) rfl (@zaa _ _ _ _ _ (pv 4) (@zaa _ _ _ _ _ (pv 5) zab (by rfl)) (by rfl)) (by decide) (by rfl) (by rfl)) (@zaa _ _ _ _ _ (pv 6) zab (by rfl)) (by rfl)) (by decide) (by rfl) (by rfl)) (by intro _; rfl))) (@za1 _ _ _ _ (@zaP _ _ _ _ (@zaH _ _ _ (@yad _ _ _ _ _ _ _ _ _ _ _ h__law_same hr (by decide) rfl (@zaa _ _ _ _ _ (@yad _ _ _ _ _ _ _ _ _ _ _ h_traced_of hr (by decide) rfl (@zaa _ _ _ _ _ (pv 4) (@zaa _ _ _ _ _ (pv 5) zab (by rfl)) (by rfl)) (by decide) (by rfl) (by rfl)) (@zaa _ _ _ _ _ (pv 7) zab (by rfl)) (by rfl)) (by decide) (by rfl) (by rfl)) (by intro _; rfl)))))) (@zad _ _ _ (@zaj _ _ _ _ yaT)) yam)) (by intro _; rfl)) (@zad _ _ _ (@zaC _ _ _ _ _ _ _ _ (@PW.pt _ _ _ (@zbE _ _ _ _ _ _ _ (@zai _ _ _ _ _ _ _ _ zef (@yad _ _ _ _ _ _ _ _ _ _ _ h_is_wheel hr (by decide) rfl (@zaa _ _ _ _ _ (pv 6) zab (by rfl)) (by decide) (by rfl) (by rfl)) yaT (zam _)) (@za1 _ _ _ _ (@zai _ _ _ _ _ _ _ _ zef (@yad _ _ _ _ _ _ _ _ _ _ _ h_is_wheel hr (by decide) rfl (@zaa _ _ _ _ _ (pv 7) zab (by rfl)) (by decide) (by rfl) (by rfl)) yaT (zam _))))) (@zad _ _ _ (@zaj _ _ _ _ yaT)) yam)))))) (by intro _; rfl)) (@zad _ _ _ (@zaj _ _ _ _ yaT)))), ?_⟩
  refine ⟨_, rfl, a, ns, rfl, ha, fun pu g H1 n1 n2 s1 hP => ?_⟩
  have ha1 := ye6 s1 ha
  refine ⟨_, rfl, a, _, rfl, .inl ha1, ?_⟩
  refine ⟨_, _, rfl, _, _, rfl, ?_⟩
  generalize hj : (if (if (((ns.map V.int).length : Nat) : Int) < 4 then (((ns.map V.int).length : Nat) : Int) else 4) > 1 then (if (((ns.map V.int).length : Nat) : Int) < 4 then (((ns.map V.int).length : Nat) : Int) else 4) else 1) = jj
  have hjj : 1 ≤ jj ∧ jj ≤ 4 := by rw [← hj]; split <;> split at * <;> omega
  refine ⟨jj, rfl, by omega, by omega, ?_⟩
  refine yaw (fun i σ H' => Pu H' pu g ∧ ∃ s2 s3 s4 s5 s6 s7 s8, σ = [some (.ref a), some (.ref pu), s2, s3, s4, s5, s6, s7, s8]) ⟨hP, none, none, none, none, none, none, none, rfl⟩ ?_ (fun σ H' _ => q _)
  rintro jt σ H2 hjt ⟨hP2, s2, s3, s4, s5, s6, s7, s8, rfl⟩
  refine ⟨_, rfl, pu, g, 63, rfl, hP2, by omega, fun r tb fa pa la wh mk p m t b few root n fewer marks H3 er T ap hW nwh nmk W hn hf1 hff hP3 sx3 => ?_⟩
  refine ⟨r, _, rfl, SqT.of er, rfl, _, _, rfl, _, _, rfl, _, _, rfl, rfl, ?_⟩
  have G := T.good
  have hn0 := W.ord.pos
  have Wf := zfv W hf1 hff
  refine ⟨_, rfl, (1 : Nat), rfl, yfh (SqT.of hW.w) fun w1 HA t1 eA => ?_⟩
  refine ⟨_, rfl, _, rfl, wh, _, _, Vn root, rfl, rfl, SqT.of (hW.same t1).w, rfl, _, rfl, _, rfl, _, rfl, tb, fa, pa, la, wh, mk, p, m, t, b, few, root, n, fewer, marks, false, rfl, T.same t1, hW.same t1, Wf, hn, fun k1 HB t2 eB => ?_⟩
  refine ⟨szl 3, fun w2 hw2 => ?_⟩
  have t3 := yac hw2 (.tup [Vn fewer, Vn root, .ref k1])
  refine yee (Same.tup (t2.trans t3) eA) (SqT.of zac) (show 1 + 3 ≤ 1000 by omega) (fun e => nomatch e) (fun e => nomatch e) fun w3 hw3 => ?_
  have t4 := yac hw3 (.tup [.ref fa, Vn fewer, Vn root, .ref k1])
  have sD := t1.trans (t2.trans (t3.trans t4))
  have hV : WhAt (upd (upd HB w2 (.tup [Vn fewer, Vn root, .ref k1])) w3 (.tup [.ref fa, Vn fewer, Vn root, .ref k1])) w3 fa k1 fewer root (fewL n (p ^ fewer) marks) := ⟨zac, t4 _ _ (t3 _ _ eB)⟩
  dsimp only [yaC]
  change tSeq _ _ _ _ (upd (upd HB w2 (.tup [Vn fewer, Vn root, .ref k1])) w3 (.tup [.ref fa, Vn fewer, Vn root, .ref k1]))
  generalize upd (upd HB w2 (.tup [Vn fewer, Vn root, .ref k1])) w3 (.tup [.ref fa, Vn fewer, Vn root, .ref k1]) = H4 at sD hV ⊢
  have hW4 := hW.same sD
  have T4 := T.same sD
  have hP4 := hP3.same sD
  clear t1 t2 t3 t4 eA eB hw2 hw3
  refine ⟨_, rfl, (1 : Nat), rfl, yfh (SqT.of hW4.w) fun w1 HA t1 eA => ?_⟩
  refine ⟨_, rfl, _, rfl, wh, _, _, Vn root, rfl, rfl, SqT.of (hW4.same t1).w, rfl, _, rfl, _, rfl, _, rfl, tb, fa, pa, la, wh, mk, p, m, t, b, few, root, n, fewer, marks, true, rfl, T4.same t1, hW4.same t1, Wf, hn, fun k2 HB t2 eB => ?_⟩
  refine ⟨szl 3, fun w2 hw2 => ?_⟩
  have t3 := yac hw2 (.tup [Vn fewer, Vn root, .ref k2])
  refine yee (Same.tup (t2.trans t3) eA) (SqT.of zac) (show 1 + 3 ≤ 1000 by omega) (fun e => nomatch e) (fun e => nomatch e) fun w4 hw4 => ?_
  have t4 := yac hw4 (.tup [.ref fa, Vn fewer, Vn root, .ref k2])
  have sE := t1.trans (t2.trans (t3.trans t4))
  have hU : WhAt (upd (upd HB w2 (.tup [Vn fewer, Vn root, .ref k2])) w4 (.tup [.ref fa, Vn fewer, Vn root, .ref k2])) w4 fa k2 fewer root (traL n (p ^ fewer) marks) := ⟨zac, t4 _ _ (t3 _ _ eB)⟩
  dsimp only [yaC]
  change tSeq _ _ _ _ (upd (upd HB w2 (.tup [Vn fewer, Vn root, .ref k2])) w4 (.tup [.ref fa, Vn fewer, Vn root, .ref k2]))
  generalize upd (upd HB w2 (.tup [Vn fewer, Vn root, .ref k2])) w4 (.tup [.ref fa, Vn fewer, Vn root, .ref k2]) = H5 at sE hU ⊢
  have hW5 := hW4.same sE
  have T5 := T4.same sE
  have hP5 := hP4.same sE
  have hV5 := hV.same sE
  have hF5 : Fld K H5 fa p m t := T5.fld
  clear t1 t2 t3 t4 eA eB hw2 hw4 hV hW4 T4 hP4
  refine ⟨2, rfl, by omega, by omega, ?_⟩
  refine yaw (lo := 0) (n := (2 : Int).toNat) (fun i σ' H' => Same H5 H' ∧ ∃ v8, σ' = [some (.ref a), some (.ref pu), some (.int (0 + (jt : Int))), some (.ref tb), some (.ref wh), some (Vn fewer), some (.ref w3), some (.ref w4), v8]) ⟨Same.refl _, _, rfl⟩ ?_ ?_
  · rintro i σ' H6 hi ⟨s6', v8, rfl⟩
    refine ⟨_, rfl, _, rfl, wh, fa, mk, p, m, t, few, root, n, fewer, marks, rfl, hW5.same s6', Same.tup s6' hF5, G, Wf, hn, fun r1 mk1 H7 s7' hW7 => ?_⟩
    have s57 := s6'.trans s7'
    refine ⟨_, rfl, _, _, rfl, yeE (Same.tup s57 hF5) hW7 (hV5.same s57) (Nat.le_trans (yfr _ _ _) (by omega)), fun H8 s8' => ?_⟩
    refine ⟨true, rfl, ?_⟩
    refine ite2 (fun c => absurd c (by decide)) (fun _ => ?_)
    have s58 := s57.trans s8'
    refine ⟨_, rfl, _, rfl, wh, fa, mk, p, m, t, few, root, n, fewer, marks, rfl, hW5.same s58, Same.tup s58 hF5, G, Wf, hn, fun r2 mk2 H9 s9' hW9 => ?_⟩
    have s59 := s58.trans s9'
    refine ⟨_, rfl, _, _, rfl, yeE (Same.tup s59 hF5) hW9 (hU.same s59) (Nat.le_trans (zfF _ _ _) (by omega)), fun H10 s10' => ?_⟩
    refine ⟨true, rfl, ?_⟩
    refine ite2 (fun c => absurd c (by decide)) (fun _ => ?_)
    exact ⟨s59.trans s10', _, rfl⟩
  · rintro σ' H6 ⟨s6', v8, rfl⟩
    refine ⟨_, rfl, w3, fa, k1, p, m, t, fewer, root, n, _, rfl, hV5.same s6', Same.tup s6' hF5, G, zfr G Wf, hn, fun H7 s7' => ?_⟩
    refine ⟨_, _, rfl, rfl, _, rfl, ?_⟩
    refine ite2 (fun c => absurd c (by decide)) (fun _ => ?_)
    have s57 := s6'.trans s7'
    refine ⟨_, rfl, w4, fa, k2, p, m, t, fewer, root, n, _, rfl, hU.same s57, Same.tup s57 hF5, G, yfE G Wf, hn, fun H8 s8' => ?_⟩
    refine ⟨_, _, rfl, rfl, _, rfl, ?_⟩
    refine ite2 (fun c => absurd c (by decide)) (fun _ => ?_)
    exact ⟨hP5.same (s57.trans s8'), _, _, _, _, _, _, _, rfl⟩
end
end My
end
section
-- text: Z66
set_option Elab.async false
set_option linter.all false
set_option maxRecDepth 100000
set_option maxHeartbeats 4000000
namespace My
open PySem L2 Dg
theorem zeV {K : PySem.W.Frag} {H : Hp} {a : Addr} {ns : List Int} {E : XK} (hl : ns.length ≤ 63) (hS : SqL K H a (ns.map V.int)) : yc6 K [.ref a] H (fun v _ => v = .bl true) E := ⟨a, ns, rfl, hS, fun _ => rfl⟩
noncomputable def DI (K : PySem.W.Frag) (f : Addr) (x : Str) (st : Stmt) : Prop := ∃ fd : FuncData, Fun K x x st f fd ∧ PySem.W.nsIn K mainGlobals x = some (some (.ref f))
theorem DI.mk {K : PySem.W.Frag} {x : Str} {st : Stmt} {f : Addr} {oc : Value} {od an : Option Addr} {osl : Array (Option Value)} {kV doc pm cdv ct : Value} (a : PySem.W.nsIn K mainGlobals x = some (some (.ref f))) (l : K.lookup f = some ⟨oc, od, .func (PySem.W.fnOf x x (ybO st) (ybI st) (zae st) .none kV doc pm an cdv ct), osl⟩) (c : PySem.W.codeIn K cdv x = true) (k : PySem.W.keepIn K (.ref f) = true) : DI K f x st := ⟨_, zfo (st := st) l c k, a⟩
theorem all_mk {l : PySem.W.OpenLaw} {w : World} {K : PySem.W.Frag} {h : Heap} {mg : Str → Option Value} {fa : Addr} (X : K.In h) (G : h.Ns mainGlobals mg) (hfa : mg "law" = some (.ref fa))
    {f1 : Addr} (q1 : DI K f1 "is_whole" ybS) {f2 : Addr} (q2 : DI K f2 "is_wholes" zbj) {f3 : Addr} (q3 : DI K f3 "number_power" za7) {f4 : Addr} (q4 : DI K f4 "is_prime" ybN) {f5 : Addr} (q5 : DI K f5 "many_things" zbg) {f6 : Addr} (q6 : DI K f6 "plus" zex) {f7 : Addr} (q7 : DI K f7 "digit_times" ybo) {f8 : Addr} (q8 : DI K f8 "lifted" ycH) {f9 : Addr} (q9 : DI K f9 "times" zdl) {f10 : Addr} (q10 : DI K f10 "times_itself" za8) {f11 : Addr} (q11 : DI K f11 "round_of" ybT) {f12 : Addr} (q12 : DI K f12 "all_come_to_one" zaM) {f13 : Addr} (q13 : DI K f13 "is_field" ybQ) {f14 : Addr} (q14 : DI K f14 "length" zcS) {f15 : Addr} (q15 : DI K f15 "is_rising" ybF) {f16 : Addr} (q16 : DI K f16 "is_wheel" ybB) {f17 : Addr} (q17 : DI K f17 "ring_from" zbJ) {f18 : Addr} (q18 : DI K f18 "rings" ydq) {f19 : Addr} (q19 : DI K f19 "wheel_of_rings" yaE) {f20 : Addr} (q20 : DI K f20 "fewer_rings" ybj) {f21 : Addr} (q21 : DI K f21 "few_of" yb2) {f22 : Addr} (q22 : DI K f22 "traced_of" zbm) {f23 : Addr} (q23 : DI K f23 "_law_purse" ybx) {f24 : Addr} (q24 : DI K f24 "_law_pick" ybH) {f25 : Addr} (q25 : DI K f25 "_law_raised" zbn) {f26 : Addr} (q26 : DI K f26 "_law_digits" ybh) {f27 : Addr} (q27 : DI K f27 "_law_number" zbh) {f28 : Addr} (q28 : DI K f28 "_law_product" za6) {f29 : Addr} (q29 : DI K f29 "_law_is_good" yaO) {f30 : Addr} (q30 : DI K f30 "_law_field" za4) {f31 : Addr} (q31 : DI K f31 "_law_table" ya3) {f32 : Addr} (q32 : DI K f32 "_law_times" zby) {f33 : Addr} (q33 : DI K f33 "_law_round" zbt) {f34 : Addr} (q34 : DI K f34 "_law_ring" zbI) {f35 : Addr} (q35 : DI K f35 "_law_wheel" yav) {f36 : Addr} (q36 : DI K f36 "_law_rings" ya4) {f37 : Addr} (q37 : DI K f37 "_law_marks" ya1) {f38 : Addr} (q38 : DI K f38 "_law_wide_wheel" zaA) {f39 : Addr} (q39 : DI K f39 "_law_same" ybf) {f40 : Addr} (q40 : DI K f40 "law" zdu)
    {tk_MOST_THINGS : Tok} (kk_MOST_THINGS : PySem.W.nsIn K mainGlobals "MOST_THINGS" = some (some (.int 64 tk_MOST_THINGS)))
    (z1 : PySem.W.nsIn K mainGlobals "range" = some none) (z2 : PySem.W.nsIn K mainGlobals "len" = some none) (z3 : PySem.W.nsIn K mainGlobals "abs" = some none) (z4 : PySem.W.nsIn K mainGlobals "min" = some none) (z5 : PySem.W.nsIn K mainGlobals "max" = some none) (z6 : PySem.W.nsIn K mainGlobals "all" = some none) (z7 : PySem.W.nsIn K mainGlobals "any" = some none) (z8 : PySem.W.nsIn K mainGlobals "isinstance" = some none) (z9 : PySem.W.nsIn K mainGlobals "int" = some none) (z10 : PySem.W.nsIn K mainGlobals "bool" = some none) (z11 : PySem.W.nsIn K mainGlobals "tuple" = some none) (z12 : PySem.W.nsIn K mainGlobals "list" = some none) (z13 : PySem.W.nsIn K mainGlobals "zip" = some none) (z14 : PySem.W.nsIn K mainGlobals "enumerate" = some none) (z15 : PySem.W.nsIn K mainGlobals "repr" = some none) (z16 : PySem.W.nsIn K mainGlobals "dict" = some none) (z17 : PySem.W.nsIn K mainGlobals "reversed" = some none) (z18 : PySem.W.nsIn K mainGlobals "sorted" = some none) (z19 : PySem.W.nsIn K mainGlobals "sum" = some none) (z20 : PySem.W.nsIn K mainGlobals "set" = some none) (z21 : PySem.W.nsIn K mainGlobals "str" = some none) :
    ∃ fd : FuncData, (∀ (s : Shared) (v : Value), BindsTo s fd ⟨[v], []⟩ [("_law_script", v)]) ∧ ∀ base : Heap, K.In base → base.Ns mainGlobals mg → FnOk l.prog w K mg base CX0 8 fa fd ["_law_script"] (yc6 K) := by
  obtain ⟨_, F1, a1⟩ := q1
  obtain ⟨_, F2, a2⟩ := q2
  obtain ⟨_, F3, a3⟩ := q3
  obtain ⟨_, F4, a4⟩ := q4
  obtain ⟨_, F5, a5⟩ := q5
  obtain ⟨_, F6, a6⟩ := q6
  obtain ⟨_, F7, a7⟩ := q7
  obtain ⟨_, F8, a8⟩ := q8
  obtain ⟨_, F9, a9⟩ := q9
  obtain ⟨_, F10, a10⟩ := q10
  obtain ⟨_, F11, a11⟩ := q11
  obtain ⟨_, F12, a12⟩ := q12
  obtain ⟨_, F13, a13⟩ := q13
  obtain ⟨_, F14, a14⟩ := q14
  obtain ⟨_, F15, a15⟩ := q15
  obtain ⟨_, F16, a16⟩ := q16
  obtain ⟨_, F17, a17⟩ := q17
  obtain ⟨_, F18, a18⟩ := q18
  obtain ⟨_, F19, a19⟩ := q19
  obtain ⟨_, F20, a20⟩ := q20
  obtain ⟨_, F21, a21⟩ := q21
  obtain ⟨_, F22, a22⟩ := q22
  obtain ⟨_, F23, a23⟩ := q23
  obtain ⟨_, F24, a24⟩ := q24
  obtain ⟨_, F25, a25⟩ := q25
  obtain ⟨_, F26, a26⟩ := q26
  obtain ⟨_, F27, a27⟩ := q27
  obtain ⟨_, F28, a28⟩ := q28
  obtain ⟨_, F29, a29⟩ := q29
  obtain ⟨_, F30, a30⟩ := q30
  obtain ⟨_, F31, a31⟩ := q31
  obtain ⟨_, F32, a32⟩ := q32
  obtain ⟨_, F33, a33⟩ := q33
  obtain ⟨_, F34, a34⟩ := q34
  obtain ⟨_, F35, a35⟩ := q35
  obtain ⟨_, F36, a36⟩ := q36
  obtain ⟨_, F37, a37⟩ := q37
  obtain ⟨_, F38, a38⟩ := q38
  obtain ⟨_, F39, a39⟩ := q39
  obtain ⟨_, ⟨⟨oc, od, kV, dc, pm, an, cd, ct, sl, rfl, lL, cL⟩, kL⟩, aL⟩ := q40
  have e := hfa.symm.trans (PySem.W.mg_of X G aL)
  cases e
  have F40 := zfo (st := zdu) lL cL kL
  have b1 := F1.binds (ps := ["thing"]) fun _ _ _ _ _ _ us hl => match us, hl with | [_], _ => rfl
  have b2 := F2.binds (ps := ["thing", "many"]) fun _ _ _ _ _ _ us hl => match us, hl with | [_, _], _ => rfl
  have b3 := F3.binds (ps := ["base", "many"]) fun _ _ _ _ _ _ us hl => match us, hl with | [_, _], _ => rfl
  have b4 := F4.binds (ps := ["number"]) fun _ _ _ _ _ _ us hl => match us, hl with | [_], _ => rfl
  have b5 := F5.binds (ps := ["field"]) fun _ _ _ _ _ _ us hl => match us, hl with | [_], _ => rfl
  have b6 := F6.binds (ps := ["field", "one", "other"]) fun _ _ _ _ _ _ us hl => match us, hl with | [_, _, _], _ => rfl
  have b7 := F7.binds (ps := ["field", "digit", "one"]) fun _ _ _ _ _ _ us hl => match us, hl with | [_, _, _], _ => rfl
  have b8 := F8.binds (ps := ["field", "one"]) fun _ _ _ _ _ _ us hl => match us, hl with | [_, _], _ => rfl
  have b9 := F9.binds (ps := ["field", "one", "other"]) fun _ _ _ _ _ _ us hl => match us, hl with | [_, _, _], _ => rfl
  have b10 := F10.binds (ps := ["field", "one", "many"]) fun _ _ _ _ _ _ us hl => match us, hl with | [_, _, _], _ => rfl
  have b11 := F11.binds (ps := ["field", "one"]) fun _ _ _ _ _ _ us hl => match us, hl with | [_, _], _ => rfl
  have b12 := F12.binds (ps := ["field"]) fun _ _ _ _ _ _ us hl => match us, hl with | [_], _ => rfl
  have b13 := F13.binds (ps := ["thing"]) fun _ _ _ _ _ _ us hl => match us, hl with | [_], _ => rfl
  have b14 := F14.binds (ps := ["wheel"]) fun _ _ _ _ _ _ us hl => match us, hl with | [_], _ => rfl
  have b15 := F15.binds (ps := ["thing", "n"]) fun _ _ _ _ _ _ us hl => match us, hl with | [_, _], _ => rfl
  have b16 := F16.binds (ps := ["thing"]) fun _ _ _ _ _ _ us hl => match us, hl with | [_], _ => rfl
  have b17 := F17.binds (ps := ["n", "q", "start"]) fun _ _ _ _ _ _ us hl => match us, hl with | [_, _, _], _ => rfl
  have b18 := F18.binds (ps := ["n", "q"]) fun _ _ _ _ _ _ us hl => match us, hl with | [_, _], _ => rfl
  have b19 := F19.binds (ps := ["wheel", "fewer", "chosen"]) fun _ _ _ _ _ _ us hl => match us, hl with | [_, _, _], _ => rfl
  have b20 := F20.binds (ps := ["wheel", "fewer"]) fun _ _ _ _ _ _ us hl => match us, hl with | [_, _], _ => rfl
  have b21 := F21.binds (ps := ["wheel", "fewer"]) fun _ _ _ _ _ _ us hl => match us, hl with | [_, _], _ => rfl
  have b22 := F22.binds (ps := ["wheel", "fewer"]) fun _ _ _ _ _ _ us hl => match us, hl with | [_, _], _ => rfl
  have b23 := F23.binds (ps := ["_law_script"]) fun _ _ _ _ _ _ us hl => match us, hl with | [_], _ => rfl
  have b24 := F24.binds (ps := ["_law_purse_here", "_law_many"]) fun _ _ _ _ _ _ us hl => match us, hl with | [_, _], _ => rfl
  have b25 := F25.binds (ps := ["_law_one", "_law_many"]) fun _ _ _ _ _ _ us hl => match us, hl with | [_, _], _ => rfl
  have b26 := F26.binds (ps := ["_law_field_here", "_law_thing"]) fun _ _ _ _ _ _ us hl => match us, hl with | [_, _], _ => rfl
  have b27 := F27.binds (ps := ["_law_field_here", "_law_digits_here"]) fun _ _ _ _ _ _ us hl => match us, hl with | [_, _], _ => rfl
  have b28 := F28.binds (ps := ["_law_field_here", "_law_one", "_law_other"]) fun _ _ _ _ _ _ us hl => match us, hl with | [_, _, _], _ => rfl
  have b29 := F29.binds (ps := ["_law_field_here"]) fun _ _ _ _ _ _ us hl => match us, hl with | [_], _ => rfl
  have b30 := F30.binds (ps := ["_law_purse_here"]) fun _ _ _ _ _ _ us hl => match us, hl with | [_], _ => rfl
  have b31 := F31.binds (ps := ["_law_field_here"]) fun _ _ _ _ _ _ us hl => match us, hl with | [_], _ => rfl
  have b32 := F32.binds (ps := ["_law_table_here", "_law_one", "_law_other"]) fun _ _ _ _ _ _ us hl => match us, hl with | [_, _, _], _ => rfl
  have b33 := F33.binds (ps := ["_law_table_here", "_law_one"]) fun _ _ _ _ _ _ us hl => match us, hl with | [_, _], _ => rfl
  have b34 := F34.binds (ps := ["_law_i", "_law_n", "_law_q"]) fun _ _ _ _ _ _ us hl => match us, hl with | [_, _, _], _ => rfl
  have b35 := F35.binds (ps := ["_law_purse_here", "_law_most"]) fun _ _ _ _ _ _ us hl => match us, hl with | [_, _], _ => rfl
  have b36 := F36.binds (ps := ["_law_table_here", "_law_wheel_here", "_law_fewer"]) fun _ _ _ _ _ _ us hl => match us, hl with | [_, _, _], _ => rfl
  have b37 := F37.binds (ps := ["_law_table_here", "_law_wheel_here", "_law_fewer", "_law_traced"]) fun _ _ _ _ _ _ us hl => match us, hl with | [_, _, _, _], _ => rfl
  have b38 := F38.binds (ps := ["_law_purse_here", "_law_most"]) fun _ _ _ _ _ _ us hl => match us, hl with | [_, _], _ => rfl
  have b39 := F39.binds (ps := ["_law_found", "_law_due"]) fun _ _ _ _ _ _ us hl => match us, hl with | [_, _], _ => rfl
  have B : Bl mg := by
    intro x hx
    simp only [zfl, List.mem_cons, List.not_mem_nil, or_false] at hx
    rcases hx with rfl | rfl | rfl | rfl | rfl | rfl | rfl | rfl | rfl | rfl | rfl | rfl | rfl | rfl | rfl | rfl | rfl | rfl | rfl | rfl | rfl
    · exact PySem.W.mg_none_of X G z1
    · exact PySem.W.mg_none_of X G z2
    · exact PySem.W.mg_none_of X G z3
    · exact PySem.W.mg_none_of X G z4
    · exact PySem.W.mg_none_of X G z5
    · exact PySem.W.mg_none_of X G z6
    · exact PySem.W.mg_none_of X G z7
    · exact PySem.W.mg_none_of X G z8
    · exact PySem.W.mg_none_of X G z9
    · exact PySem.W.mg_none_of X G z10
    · exact PySem.W.mg_none_of X G z11
    · exact PySem.W.mg_none_of X G z12
    · exact PySem.W.mg_none_of X G z13
    · exact PySem.W.mg_none_of X G z14
    · exact PySem.W.mg_none_of X G z15
    · exact PySem.W.mg_none_of X G z16
    · exact PySem.W.mg_none_of X G z17
    · exact PySem.W.mg_none_of X G z18
    · exact PySem.W.mg_none_of X G z19
    · exact PySem.W.mg_none_of X G z20
    · exact PySem.W.mg_none_of X G z21
  have m_MOST_THINGS := PySem.W.mg_of X G kk_MOST_THINGS
  refine ⟨PySem.W.fnOf "law" "law" (ybO zdu) (ybI zdu) (zae zdu) .none kV dc pm an cd ct, fun s v => .of_eq rfl, fun base _ _ => ?_⟩
  have h_is_whole : Has l.prog w K mg base 1 "is_whole" ["thing"] _ := ⟨f1, _, zfE (P := l.prog) (w := w) (base := base) B  F1, b1, F1.2, PySem.W.mg_of X G a1⟩
  have h_is_wholes : Has l.prog w K mg base 2 "is_wholes" ["thing", "many"] _ := ⟨f2, _, zfu (P := l.prog) (w := w) (base := base) B h_is_whole F2, b2, F2.2, PySem.W.mg_of X G a2⟩
  have h_number_power : Has l.prog w K mg base 1 "number_power" ["base", "many"] _ := ⟨f3, _, zcm (P := l.prog) (w := w) (base := base) B  F3, b3, F3.2, PySem.W.mg_of X G a3⟩
  have h_is_prime : Has l.prog w K mg base 1 "is_prime" ["number"] _ := ⟨f4, _, zd3 (P := l.prog) (w := w) (base := base) B  F4, b4, F4.2, PySem.W.mg_of X G a4⟩
  have h_many_things : Has l.prog w K mg base 2 "many_things" ["field"] _ := ⟨f5, _, zfB (P := l.prog) (w := w) (base := base) B h_number_power F5, b5, F5.2, PySem.W.mg_of X G a5⟩
  have h_plus : Has l.prog w K mg base 1 "plus" ["field", "one", "other"] _ := ⟨f6, _, yfA (P := l.prog) (w := w) (base := base) B  F6, b6, F6.2, PySem.W.mg_of X G a6⟩
  have h_digit_times : Has l.prog w K mg base 1 "digit_times" ["field", "digit", "one"] _ := ⟨f7, _, zcq (P := l.prog) (w := w) (base := base) B  F7, b7, F7.2, PySem.W.mg_of X G a7⟩
  have h_lifted : Has l.prog w K mg base 2 "lifted" ["field", "one"] _ := ⟨f8, _, yeq (P := l.prog) (w := w) (base := base) B h_plus h_digit_times h_number_power F8, b8, F8.2, PySem.W.mg_of X G a8⟩
  have h_times : Has l.prog w K mg base 3 "times" ["field", "one", "other"] _ := ⟨f9, _, ze3 (P := l.prog) (w := w) (base := base) B h_plus h_digit_times h_lifted F9, b9, F9.2, PySem.W.mg_of X G a9⟩
  have h_times_itself : Has l.prog w K mg base 4 "times_itself" ["field", "one", "many"] _ := ⟨f10, _, yd9 (P := l.prog) (w := w) (base := base) B h_times F10, b10, F10.2, PySem.W.mg_of X G a10⟩
  have h_round_of : Has l.prog w K mg base 4 "round_of" ["field", "one"] _ := ⟨f11, _, ze4 (P := l.prog) (w := w) (base := base) B h_times F11, b11, F11.2, PySem.W.mg_of X G a11⟩
  have h_all_come_to_one : Has l.prog w K mg base 5 "all_come_to_one" ["field"] _ := ⟨f12, _, yew (P := l.prog) (w := w) (base := base) B h_many_things h_times_itself F12, b12, F12.2, PySem.W.mg_of X G a12⟩
  have h_is_field : Has l.prog w K mg base 6 "is_field" ["thing"] _ := ⟨f13, _, zd0 (P := l.prog) (w := w) (base := base) m_MOST_THINGS B h_is_wholes h_is_prime h_many_things h_all_come_to_one F13, b13, F13.2, PySem.W.mg_of X G a13⟩
  have h_length : Has l.prog w K mg base 5 "length" ["wheel"] _ := ⟨f14, _, yea (P := l.prog) (w := w) (base := base) B h_round_of F14, b14, F14.2, PySem.W.mg_of X G a14⟩
  have h_is_rising : Has l.prog w K mg base 2 "is_rising" ["thing", "n"] _ := ⟨f15, _, ydw (P := l.prog) (w := w) (base := base) B h_is_whole F15, b15, F15.2, PySem.W.mg_of X G a15⟩
  have h_is_wheel : Has l.prog w K mg base 7 "is_wheel" ["thing"] _ := ⟨f16, _, zdV (P := l.prog) (w := w) (base := base) B h_is_field h_is_whole h_many_things h_length h_number_power h_is_rising F16, b16, F16.2, PySem.W.mg_of X G a16⟩
  have h_ring_from : Has l.prog w K mg base 1 "ring_from" ["n", "q", "start"] _ := ⟨f17, _, zeW (P := l.prog) (w := w) (base := base) B  F17, b17, F17.2, PySem.W.mg_of X G a17⟩
  have h_rings : Has l.prog w K mg base 2 "rings" ["n", "q"] _ := ⟨f18, _, ze6 (P := l.prog) (w := w) (base := base) B h_ring_from F18, b18, F18.2, PySem.W.mg_of X G a18⟩
  have h_wheel_of_rings : Has l.prog w K mg base 1 "wheel_of_rings" ["wheel", "fewer", "chosen"] _ := ⟨f19, _, zee (P := l.prog) (w := w) (base := base) B  F19, b19, F19.2, PySem.W.mg_of X G a19⟩
  have h_fewer_rings : Has l.prog w K mg base 6 "fewer_rings" ["wheel", "fewer"] _ := ⟨f20, _, yeC (P := l.prog) (w := w) (base := base) B h_rings h_length h_number_power F20, b20, F20.2, PySem.W.mg_of X G a20⟩
  have h_few_of : Has l.prog w K mg base 7 "few_of" ["wheel", "fewer"] _ := ⟨f21, _, zf2 (P := l.prog) (w := w) (base := base) B h_fewer_rings h_wheel_of_rings F21, b21, F21.2, PySem.W.mg_of X G a21⟩
  have h_traced_of : Has l.prog w K mg base 7 "traced_of" ["wheel", "fewer"] _ := ⟨f22, _, yfU (P := l.prog) (w := w) (base := base) B h_fewer_rings h_wheel_of_rings F22, b22, F22.2, PySem.W.mg_of X G a22⟩
  have h__law_purse : Has l.prog w K mg base 1 "_law_purse" ["_law_script"] _ := ⟨f23, _, zeY (P := l.prog) (w := w) (base := base) B  F23, b23, F23.2, PySem.W.mg_of X G a23⟩
  have h__law_pick : Has l.prog w K mg base 1 "_law_pick" ["_law_purse_here", "_law_many"] _ := ⟨f24, _, zfA (P := l.prog) (w := w) (base := base) B  F24, b24, F24.2, PySem.W.mg_of X G a24⟩
  have h__law_raised : Has l.prog w K mg base 1 "_law_raised" ["_law_one", "_law_many"] _ := ⟨f25, _, zeF (P := l.prog) (w := w) (base := base) B  F25, b25, F25.2, PySem.W.mg_of X G a25⟩
  have h__law_digits : Has l.prog w K mg base 1 "_law_digits" ["_law_field_here", "_law_thing"] _ := ⟨f26, _, zeH (P := l.prog) (w := w) (base := base) B  F26, b26, F26.2, PySem.W.mg_of X G a26⟩
  have h__law_number : Has l.prog w K mg base 1 "_law_number" ["_law_field_here", "_law_digits_here"] _ := ⟨f27, _, zew (P := l.prog) (w := w) (base := base) B  F27, b27, F27.2, PySem.W.mg_of X G a27⟩
  have h__law_product : Has l.prog w K mg base 2 "_law_product" ["_law_field_here", "_law_one", "_law_other"] _ := ⟨f28, _, ydS (P := l.prog) (w := w) (base := base) B h__law_digits h__law_number F28, b28, F28.2, PySem.W.mg_of X G a28⟩
  have h__law_is_good : Has l.prog w K mg base 3 "_law_is_good" ["_law_field_here"] _ := ⟨f29, _, zfH (P := l.prog) (w := w) (base := base) B h__law_raised h__law_product F29, b29, F29.2, PySem.W.mg_of X G a29⟩
  have h__law_field : Has l.prog w K mg base 4 "_law_field" ["_law_purse_here"] _ := ⟨f30, _, ze5 (P := l.prog) (w := w) (base := base) B h__law_pick h__law_raised h__law_is_good F30, b30, F30.2, PySem.W.mg_of X G a30⟩
  have h__law_table : Has l.prog w K mg base 3 "_law_table" ["_law_field_here"] _ := ⟨f31, _, ze2 (P := l.prog) (w := w) (base := base) B h__law_raised h__law_product F31, b31, F31.2, PySem.W.mg_of X G a31⟩
  have h__law_times : Has l.prog w K mg base 1 "_law_times" ["_law_table_here", "_law_one", "_law_other"] _ := ⟨f32, _, zea (P := l.prog) (w := w) (base := base) B  F32, b32, F32.2, PySem.W.mg_of X G a32⟩
  have h__law_round : Has l.prog w K mg base 2 "_law_round" ["_law_table_here", "_law_one"] _ := ⟨f33, _, yev (P := l.prog) (w := w) (base := base) B h__law_times F33, b33, F33.2, PySem.W.mg_of X G a33⟩
  have h__law_ring : Has l.prog w K mg base 1 "_law_ring" ["_law_i", "_law_n", "_law_q"] _ := ⟨f34, _, ye9 (P := l.prog) (w := w) (base := base) B  F34, b34, F34.2, PySem.W.mg_of X G a34⟩
  have h__law_wheel : Has l.prog w K mg base 5 "_law_wheel" ["_law_purse_here", "_law_most"] _ := ⟨f35, _, zeM (P := l.prog) (w := w) (base := base) B h__law_pick h__law_field h__law_table h__law_raised h__law_round h__law_ring F35, b35, F35.2, PySem.W.mg_of X G a35⟩
  have h__law_rings : Has l.prog w K mg base 3 "_law_rings" ["_law_table_here", "_law_wheel_here", "_law_fewer"] _ := ⟨f36, _, zeS (P := l.prog) (w := w) (base := base) B h__law_round h__law_raised h__law_ring F36, b36, F36.2, PySem.W.mg_of X G a36⟩
  have h__law_marks : Has l.prog w K mg base 4 "_law_marks" ["_law_table_here", "_law_wheel_here", "_law_fewer", "_law_traced"] _ := ⟨f37, _, yem (P := l.prog) (w := w) (base := base) B h__law_rings F37, b37, F37.2, PySem.W.mg_of X G a37⟩
  have h__law_wide_wheel : Has l.prog w K mg base 6 "_law_wide_wheel" ["_law_purse_here", "_law_most"] _ := ⟨f38, _, zeU (P := l.prog) (w := w) (base := base) B h__law_wheel h__law_pick F38, b38, F38.2, PySem.W.mg_of X G a38⟩
  have h__law_same0 : Has l.prog w K mg base 0 "_law_same" ["_law_found", "_law_due"] (zbo K 0) := ⟨f39, _, zez, b39, F39.2, PySem.W.mg_of X G a39⟩
  have h__law_same1 : Has l.prog w K mg base 1 "_law_same" ["_law_found", "_law_due"] (zbo K 1) := ⟨f39, _, ydt (P := l.prog) (w := w) (base := base) B h__law_same0 F39, b39, F39.2, PySem.W.mg_of X G a39⟩
  have h__law_same2 : Has l.prog w K mg base 2 "_law_same" ["_law_found", "_law_due"] (zbo K 2) := ⟨f39, _, ydt (P := l.prog) (w := w) (base := base) B h__law_same1 F39, b39, F39.2, PySem.W.mg_of X G a39⟩
  have h__law_same : Has l.prog w K mg base 3 "_law_same" ["_law_found", "_law_due"] (zbo K 3) := ⟨f39, _, ydt (P := l.prog) (w := w) (base := base) B h__law_same2 F39, b39, F39.2, PySem.W.mg_of X G a39⟩
  exact yf4 (P := l.prog) (w := w) (base := base) B h__law_purse h__law_wide_wheel h__law_marks h__law_same h_few_of h_traced_of h_is_wheel F40
theorem walk {l : PySem.W.OpenLaw} {q : Program} {loose : List Str} {XP : (Str → Option Value) → Heap → Prop} {YP : World → Heap → Prop} {d : DefRec} {K : Params → PySem.W.Frag} (hn : l.most = some 63) (hdf : d.params.defaults = [])
    (hY : ∀ (w : World) (h : Heap), YP w h → (K w.params).In h)
    (F : ∀ (w : World) (mg : Str → Option Value) (fa : Addr) (h : Heap), (K w.params).In h → h.Ns mainGlobals mg → mg d.name = some (.ref fa) →
      ∃ fd : FuncData, (∀ (s : Shared) (u : Value), BindsTo s fd ⟨[u], []⟩ [("_law_script", u)]) ∧ ∀ base : Heap, (K w.params).In base → base.Ns mainGlobals mg → FnOk l.prog w (K w.params) mg base CX0 8 fa fd ["_law_script"] (yc6 (K w.params))) :
    PySem.W.WalkO q loose XP YP l.row.toRowW d [] (fun f vs => PySem.call f vs) :=
  L2.walk_of (n := 63) (k := 8) (x := "_law_script") (CX := fun _ => CX0) (sp := fun w => yc6 (K w.params)) hn (by decide) hdf ⟨rfl, by decide, by decide, rfl⟩ hY F (fun _ _ a ns hl _ hS => zeV hl hS) fun _ _ _ _ _ z => z
end My
theorem PySem.W.Fast.tw9808933743084325377 : True := trivial
theorem PySem.W.Fast.tw4934527068841088945 : True := trivial
theorem PySem.W.Fast.tw3588836449716133582 : True := trivial
theorem PySem.W.Fast.tw12163932147068395361 : True := trivial
theorem PySem.W.Fast.tw16215676182427601324 : True := trivial
theorem PySem.W.Fast.tw5015527583101915188 : True := trivial
theorem PySem.W.Fast.tw18143598336917506896 : True := trivial
theorem PySem.W.Fast.tw8511802821916072076 : True := trivial
theorem PySem.W.Fast.tw14775538690498080778 : True := trivial
theorem PySem.W.Fast.tw16716346114846753075 : True := trivial
theorem PySem.W.Fast.tw9381166454435082456 : True := trivial
theorem PySem.W.Fast.tw8845539765550935036 : True := trivial
theorem PySem.W.Fast.tw4734613037450724707 : True := trivial
theorem PySem.W.Fast.tw14418809238764865714 : True := trivial
theorem PySem.W.Fast.tw13106019537174993258 : True := trivial
theorem PySem.W.Fast.tw2299360241938545357 : True := trivial
theorem PySem.W.Fast.tw10141852766793597443 : True := trivial
theorem PySem.W.Fast.tw2734120187277985601 : True := trivial
theorem PySem.W.Fast.tw1801749730696557910 : True := trivial
theorem PySem.W.Fast.tw2020665622205600467 : True := trivial
theorem PySem.W.Fast.tw7549153374682371120 : True := trivial
theorem PySem.W.Fast.tw8428686623018343074 : True := trivial
theorem PySem.W.Fast.tw11370250145273457538 : True := trivial
theorem PySem.W.Fast.tw17112640102001081987 : True := trivial
theorem PySem.W.Fast.tw13684517859126191469 : True := trivial
theorem PySem.W.Fast.tw743550982479245608 : True := trivial
theorem PySem.W.Fast.tw4796649941868691692 : True := trivial
theorem PySem.W.Fast.tw11099109425982120499 : True := trivial
theorem PySem.W.Fast.tw7587560745093046362 : True := trivial
theorem PySem.W.Fast.tw6364047613655582342 : True := trivial
theorem PySem.W.Fast.tw12824378177652700400 : True := trivial
theorem PySem.W.Fast.tw11184319840928629564 : True := trivial
theorem PySem.W.Fast.tw16034742200586385300 : True := trivial
theorem PySem.W.Fast.tw13749399457801075697 : True := trivial
theorem PySem.W.Fast.tw17112872276430453855 : True := trivial
theorem PySem.W.Fast.tw12154703042987511833 : True := trivial
theorem PySem.W.Fast.tw11045612123162479216 : True := trivial
theorem PySem.W.Fast.tw11641173722169171355 : True := trivial
theorem PySem.W.Fast.tw12779840196360564223 : True := trivial
theorem PySem.W.Fast.tw2552094276952646899 : True := trivial
theorem PySem.W.Fast.tw17047228101544599466 : True := trivial
theorem PySem.W.Fast.tw9533783256881914289 : True := trivial
theorem PySem.W.Fast.tw9624360324536009083 : True := trivial
theorem PySem.W.Fast.tw627345299822225106 : True := trivial
theorem PySem.W.Fast.tw9303956408236999004 : True := trivial
theorem PySem.W.Fast.tw6077872393909014089 : True := trivial
theorem PySem.W.Fast.tw3579266499749921491 : True := trivial
theorem PySem.W.Fast.tw6139598845893855738 : True := trivial
theorem PySem.W.Fast.tw12610135994490165996 : True := trivial
theorem PySem.W.Fast.tw8060870284322840018 : True := trivial
theorem PySem.W.Fast.tw6506315717587712434 : True := trivial
theorem PySem.W.Fast.tw14894329111241258256 : True := trivial
theorem PySem.W.Fast.tw8993044829180299983 : True := trivial
theorem PySem.W.Fast.tw12834540721702105015 : True := trivial
theorem PySem.W.Fast.tw2831959778631814822 : True := trivial
theorem PySem.W.Fast.tw7576104635428006450 : True := trivial
theorem PySem.W.Fast.tw17957481730185349759 : True := trivial
theorem PySem.W.Fast.tw16779178400210459045 : True := trivial
theorem PySem.W.Fast.tw12133770330571704255 : True := trivial
theorem PySem.W.Fast.tw9104655992346012490 : True := trivial
theorem PySem.W.Fast.tw516305505540509014 : True := trivial
theorem PySem.W.Fast.tw4878087368625891709 : True := trivial
theorem PySem.W.Fast.tw1423749622725395513 : True := trivial
theorem PySem.W.Fast.tw7866116818603772927 : True := trivial
theorem PySem.W.Fast.tw7778395207149412740 : True := trivial
theorem PySem.W.Fast.tw10812861801758186314 : True := trivial
theorem PySem.W.Fast.tw3676272140048115308 : True := trivial
theorem PySem.W.Fast.tw11727325052660758202 : True := trivial
theorem PySem.W.Fast.tw17496022202567753524 : True := trivial
theorem PySem.W.Fast.tw7271605898986788039 : True := trivial
theorem PySem.W.Fast.tw15088579732313203736 : True := trivial
theorem PySem.W.Fast.tw809590247630327151 : True := trivial
theorem PySem.W.Fast.tw1122486467543941521 : True := trivial
theorem PySem.W.Fast.tw10993673460334579179 : True := trivial
theorem PySem.W.Fast.tw7845072627934260950 : True := trivial
theorem PySem.W.Fast.tw9883008557190415404 : True := trivial
theorem PySem.W.Fast.tw548938465167105969 : True := trivial
theorem PySem.W.Fast.tw12980812585061967586 : True := trivial
theorem PySem.W.Fast.tw6273822667853684522 : True := trivial
theorem PySem.W.Fast.tw10897740900830184488 : True := trivial
theorem PySem.W.Fast.tw16229625864285643054 : True := trivial
theorem PySem.W.Fast.tw10288447425805252099 : True := trivial
theorem PySem.W.Fast.tw7831530997932225257 : True := trivial
theorem PySem.W.Fast.tw16659064036940620455 : True := trivial
theorem PySem.W.Fast.tw377888799292328545 : True := trivial
theorem PySem.W.Fast.tw10223468947105907654 : True := trivial
theorem PySem.W.Fast.tw5458952470883401490 : True := trivial
theorem PySem.W.Fast.tw5644578501985330944 : True := trivial
theorem PySem.W.Fast.tw14443534108514424165 : True := trivial
theorem PySem.W.Fast.tw14378514506379372880 : True := trivial
theorem PySem.W.Fast.tw16693001368729445068 : True := trivial
theorem PySem.W.Fast.tw2292750105320211749 : True := trivial
theorem PySem.W.Fast.tw8757956111277803109 : True := trivial
theorem PySem.W.Fast.tw65387720172631147 : True := trivial
theorem PySem.W.Fast.tw17898225611343118465 : True := trivial
theorem PySem.W.Fast.tw13544979871292329926 : True := trivial
theorem PySem.W.Fast.tw1824729330666765381 : True := trivial
theorem PySem.W.Fast.tw10571137091784608022 : True := trivial
theorem PySem.W.Fast.tw1106104401961612817 : True := trivial
theorem PySem.W.Fast.tw2661524348957444076 : True := trivial
theorem PySem.W.Fast.tw1926853735283054193 : True := trivial
theorem PySem.W.Fast.tw8979744432211158324 : True := trivial
theorem PySem.W.Fast.tw14188950438399055352 : True := trivial
theorem PySem.W.Fast.tw13977358101362692274 : True := trivial
theorem PySem.W.Fast.tw6589456083509469231 : True := trivial
theorem PySem.W.Fast.tw15235568296219974521 : True := trivial
theorem PySem.W.Fast.tw14439633793588091526 : True := trivial
theorem PySem.W.Fast.tw12918756981164352752 : True := trivial
theorem PySem.W.Fast.tw2385293776848811952 : True := trivial
theorem PySem.W.Fast.tw4875937703765282320 : True := trivial
theorem PySem.W.Fast.tw5950154486743191597 : True := trivial
theorem PySem.W.Fast.tw17691494982955132894 : True := trivial
theorem PySem.W.Fast.tw9692171116831118455 : True := trivial
theorem PySem.W.Fast.tw16662244315428075146 : True := trivial
theorem PySem.W.Fast.tw6972658237583749009 : True := trivial
theorem PySem.W.Fast.tw16996006436005761361 : True := trivial
theorem PySem.W.Fast.tw11426459865452108181 : True := trivial
theorem PySem.W.Fast.tw9969129973141557127 : True := trivial
theorem PySem.W.Fast.tw2177472644038996411 : True := trivial
theorem PySem.W.Fast.tw8632982793643221653 : True := trivial
theorem PySem.W.Fast.tw4499912101206345856 : True := trivial
theorem PySem.W.Fast.tw6047057287181994582 : True := trivial
theorem PySem.W.Fast.tw16481447597864330996 : True := trivial
theorem PySem.W.Fast.tw4938625464741966923 : True := trivial
theorem PySem.W.Fast.tw4987901512452418542 : True := trivial
theorem PySem.W.Fast.tw2097189184768250682 : True := trivial
theorem PySem.W.Fast.tw12241664040646364252 : True := trivial
theorem PySem.W.Fast.tw4648065802663872361 : True := trivial
theorem PySem.W.Fast.tw7809949082154306668 : True := trivial
theorem PySem.W.Fast.tw12269975078896582167 : True := trivial
theorem PySem.W.Fast.tw1327323144391967961 : True := trivial
theorem PySem.W.Fast.tw2703002041015639287 : True := trivial
theorem PySem.W.Fast.tw15096233406181805348 : True := trivial
theorem PySem.W.Fast.tw5310074407960062436 : True := trivial
theorem PySem.W.Fast.tw16287249364821869133 : True := trivial
theorem PySem.W.Fast.tw1440568963153232835 : True := trivial
theorem PySem.W.Fast.tw9897076205839640885 : True := trivial
theorem PySem.W.Fast.tw2718287764166821728 : True := trivial
theorem PySem.W.Fast.tw13528911914950197112 : True := trivial
theorem PySem.W.Fast.tw9101094399553817770 : True := trivial
theorem PySem.W.Fast.tw4263266049393771427 : True := trivial
theorem PySem.W.Fast.tw5684542396214490743 : True := trivial
theorem PySem.W.Fast.tw14700377848663982487 : True := trivial
theorem PySem.W.Fast.tw10674739221651197064 : True := trivial
theorem PySem.W.Fast.tw8171052539786025588 : True := trivial
theorem PySem.W.Fast.tw14415209643627143002 : True := trivial
theorem PySem.W.Fast.tw10404179422698973869 : True := trivial
theorem PySem.W.Fast.tw10881075158981667097 : True := trivial
theorem PySem.W.Fast.tw1047738849219643834 : True := trivial
theorem PySem.W.Fast.tw15846314855263882662 : True := trivial
theorem PySem.W.Fast.tw17526542839549520895 : True := trivial
theorem PySem.W.Fast.tw4434145666277338363 : True := trivial
theorem PySem.W.Fast.tw2295693801382761317 : True := trivial
theorem PySem.W.Fast.tw6652162582783981840 : True := trivial
theorem PySem.W.Fast.tw9259064207025565392 : True := trivial
theorem PySem.W.Fast.tw7170094431680269143 : True := trivial
theorem PySem.W.Fast.tw11122679930891428524 : True := trivial
theorem PySem.W.Fast.tw14530755797226169019 : True := trivial
theorem PySem.W.Fast.tw5278978957484131379 : True := trivial
theorem PySem.W.Fast.tw13563180272473660965 : True := trivial
theorem PySem.W.Fast.tw1426425453601431433 : True := trivial
theorem PySem.W.Fast.tw11787465141938439591 : True := trivial
theorem PySem.W.Fast.tw12512919085478315571 : True := trivial
theorem PySem.W.Fast.tw14035135020407415982 : True := trivial
theorem PySem.W.Fast.tw3654856361551373347 : True := trivial
theorem PySem.W.Fast.tw3627694287211130889 : True := trivial
theorem PySem.W.Fast.tw13854937741629813146 : True := trivial
theorem PySem.W.Fast.tw17079730000572167715 : True := trivial
theorem PySem.W.Fast.tw13081053002341447019 : True := trivial
theorem PySem.W.Fast.tw17740631152876521183 : True := trivial
theorem PySem.W.Fast.tw2817040141833035106 : True := trivial
theorem PySem.W.Fast.tw3044785787211943237 : True := trivial
theorem PySem.W.Fast.tw3289846857644255352 : True := trivial
theorem PySem.W.Fast.tw9393155035025072177 : True := trivial
theorem PySem.W.Fast.tw9996605502167484765 : True := trivial
theorem PySem.W.Fast.tw1168186101295706370 : True := trivial
theorem PySem.W.Fast.tw7453471350872092046 : True := trivial
theorem PySem.W.Fast.tw17063977068303051366 : True := trivial
theorem PySem.W.Fast.tw17725017141432817921 : True := trivial
theorem PySem.W.Fast.tw16354341411438908440 : True := trivial
theorem PySem.W.Fast.tw11364712004212528687 : True := trivial
theorem PySem.W.Fast.tw13494941131134835934 : True := trivial
theorem PySem.W.Fast.tw5450273403013704763 : True := trivial
theorem PySem.W.Fast.tw1214201403627547274 : True := trivial
theorem PySem.W.Fast.tw945828291238767015 : True := trivial
theorem PySem.W.Fast.tw14197788281035214643 : True := trivial
theorem PySem.W.Fast.tw11175378110879939191 : True := trivial
theorem PySem.W.Fast.tw13504098427607816597 : True := trivial
theorem PySem.W.Fast.tw5814734558965681289 : True := trivial
theorem PySem.W.Fast.tw12576960999248995684 : True := trivial
theorem PySem.W.Fast.tw9360043251145294316 : True := trivial
theorem PySem.W.Fast.tw17149100986470548413 : True := trivial
theorem PySem.W.Fast.tw3708667744066061001 : True := trivial
theorem PySem.W.Fast.tw13730780701159324344 : True := trivial
theorem PySem.W.Fast.tw1889108568389864042 : True := trivial
theorem PySem.W.Fast.tw6128371243564556050 : True := trivial
theorem PySem.W.Fast.tw4983668861809230555 : True := trivial
theorem PySem.W.Fast.tw16227058548473036768 : True := trivial
theorem PySem.W.Fast.tw4053109537631497374 : True := trivial
theorem PySem.W.Fast.tw17163369726176739801 : True := trivial
theorem PySem.W.Fast.tw1148611353958353432 : True := trivial
theorem PySem.W.Fast.tw18317283597220112894 : True := trivial
theorem PySem.W.Fast.tw7220796146162400851 : True := trivial
theorem PySem.W.Fast.tw18424771216571280990 : True := trivial
theorem PySem.W.Fast.tw561042750339718421 : True := trivial
theorem PySem.W.Fast.tw6335068065460166207 : True := trivial
theorem PySem.W.Fast.tw8950388876241832368 : True := trivial
theorem PySem.W.Fast.tw17843126463781352903 : True := trivial
theorem PySem.W.Fast.tw1837560382940399610 : True := trivial
theorem PySem.W.Fast.tw8756880835819049725 : True := trivial
theorem PySem.W.Fast.tw6666235412707069507 : True := trivial
theorem PySem.W.Fast.tw4503974858228752019 : True := trivial
theorem PySem.W.Fast.tw11136499911884915588 : True := trivial
theorem PySem.W.Fast.tw1793675156011226826 : True := trivial
theorem PySem.W.Fast.tw3930557020262614347 : True := trivial
theorem PySem.W.Fast.tw7216774940545533940 : True := trivial
theorem PySem.W.Fast.tw17941870689476707238 : True := trivial
theorem PySem.W.Fast.tw18344425358453696119 : True := trivial
theorem PySem.W.Fast.tw16569133729568947762 : True := trivial
theorem PySem.W.Fast.tw5489726055952709750 : True := trivial
theorem PySem.W.Fast.tw12816943623222491830 : True := trivial
theorem PySem.W.Fast.tw7888011147767984423 : True := trivial
theorem PySem.W.Fast.tw10719620166769062562 : True := trivial
theorem PySem.W.Fast.tw14413495808879853372 : True := trivial
theorem PySem.W.Fast.tw5423803101615067388 : True := trivial
theorem PySem.W.Fast.tw14312567107149634756 : True := trivial
theorem PySem.W.Fast.tw8197804759321410662 : True := trivial
theorem PySem.W.Fast.tw17331007861259431887 : True := trivial
theorem PySem.W.Fast.tw2386896267871045833 : True := trivial
theorem PySem.W.Fast.tw18391124873530161457 : True := trivial
theorem PySem.W.Fast.tw3698593536776339103 : True := trivial
theorem PySem.W.Fast.tw14727375529755183506 : True := trivial
theorem PySem.W.Fast.tw13112249093251879812 : True := trivial
theorem PySem.W.Fast.tw4098474100225125457 : True := trivial
theorem PySem.W.Fast.tw9182207105740019205 : True := trivial
theorem PySem.W.Fast.tw13147764483186497629 : True := trivial
theorem PySem.W.Fast.tw12770587183811087341 : True := trivial
open PySem PySem.W PyProof.Rows
set_option maxRecDepth 100000 in
set_option maxHeartbeats 0 in
theorem PySem.Challenge.cw_roundwords_k66_fewer_letters_told_holds : PySem.Challenge.rw_roundwords_k66_fewer_letters_told.Holds := by
  w_on; refine holds_law yfQ fun said => ?_; k_head; (case hw => w_witness2)
  k_fill
  refine My.walk (l := PySem.Challenge.rw_roundwords_k66_fewer_letters_told) rfl rfl (fun w h Y => PySem.W.kIn_of Y) ?F
  case F =>
    intro w mg fa h KX G hmg
    apply My.all_mk KX G hmg
    all_goals first | (apply My.DI.mk <;> k_is) | k_is
#print axioms PySem.Challenge.cw_roundwords_k66_fewer_letters_told_holds
end
