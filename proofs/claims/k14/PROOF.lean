import PyProof.Rows.All
import Wide.All
import OpenK.AllK
import Wide.FinOn
import Lean
import PyProof.EqAt
import PyProof.EqKinds
import PyProof.TupleCall
import KE.KUnpack
import PyProof.ListRange
import PyProof.TupleOfGen
import PyProof.NeKinds
import KE.KRevIter
import PyProof.FactsAll.range_2
import KE.KTryMore
import PyProof.IsRules
import PyProof.IsInstanceH
import PyProof.ReprRoads
import PyProof.CallStr
import PyProof.Rows.ReprOcc
import KE.KSortTup
import PyProof.FactsAll.tuple_2
import PySem.Challenge.RW_roundwords_k14_wheels_or_none
set_option Elab.async false
set_option linter.all false
set_option maxRecDepth 100000
set_option maxHeartbeats 4000000
noncomputable section
local macro_rules|`(tactic|trivial)=>`(tactic|first|exact .inl rfl|exact .inr rfl|assumption)
set_option hygiene false in
local macro_rules | `($a>=>$b) => `(@zcu _ _ _ _ _ $a $b (by rfl))
set_option hygiene false in
local macro_rules | `($a<=<$b) => `(@yfO _ _ _ _ _ $a $b)
set_option hygiene false in
local macro_rules | `(~~~$a) => `(@ygD _ _ _ $a)
set_option hygiene false in
local macro_rules | `($a<$>$b) => `(@zad _ _ _ _ _ _ _ _ _ _ _ $a hr (by decide) rfl $b (by decide) (by rfl) (by rfl))
set_option hygiene false in
local macro_rules | `($a|||$b|||$c) => `(@ygZ _ _ _ _ _ _ _ _ $a $b $c)
set_option hygiene false in
local macro_rules | `($a&&&$b) => `(@ze3 _ _ $a _ $b rfl (by trivial) (by trivial))
set_option hygiene false in
local macro_rules | `($a<|>$b<|>$c) => `(@ygW _ _ $a _ _ _ _ $b rfl (by trivial) $c (by rfl) (by trivial))
set_option hygiene false in
local macro_rules | `($a<<<$b<<<$c) => `(@zhs _ _ _ _ _ _ _ $a $b $c (fun _ _ => rfl))
set_option hygiene false in
local macro_rules | `($a⁻¹) => `(@ygJ _ _ _ _ $a)
set_option hygiene false in
local macro_rules | `($a∩$b) => `(@yfP _ _ _ _ _ $a $b (by rfl))
set_option hygiene false in
local macro_rules | `($a∪$b∪$c) => `(@ygx _ _ _ _ _ _ _ _ $a $b $c (ydA _))
set_option hygiene false in
local macro_rules | `($a>>>($s, $c, $d)) => `(@yfA _ _ _ _ _ _ _ _ _ $a rfl (B $s (by decide)) $c $d (by decide) (by decide) (by rfl) (by rfl))
set_option hygiene false in
local macro_rules | `($a<*($s, $c, $d)) => `(@zff _ _ _ _ _ _ _ _ _ $a rfl (B $s (by decide)) $c $d (by decide) (by decide) (by rfl) (by rfl))
set_option hygiene false in
local macro_rules | `($a*>($b, $c)) => `(@yhi _ _ _ _ _ _ _ _ $a $b $c)
set_option hygiene false in
local macro_rules | `($a<&>($b, $c)) => `(@zgM _ _ _ _ _ _ _ _ PassesOwn.never rfl $a $b $c (by intro _; rfl))
set_option hygiene false in
local macro_rules | `($a≈$b) => `(@zdA _ _ _ _ _ _ $a (@ydn _ _ _ _ _ _ rfl $b (by rfl) (by rfl)) (by rfl) (by rfl) (by rfl))
set_option hygiene false in
local macro_rules | `($s⊂$b) => `(@zgc _ _ _ _ _ rfl (B $s (by decide)) $b (id (α := RelV (.ty $s) (.type $s)) rfl) (by decide) (by decide))
set_option hygiene false in
local macro_rules | `($a⊃$b) => `(@ygz _ _ _ _ _ _ (zha hr) $a $b (fun _ _ => rfl))
set_option hygiene false in
local macro_rules | `(↑$a) => `(@yeS _ _ _ _ _ _ rfl (B "range" (by decide)) $a (by rfl))
set_option hygiene false in
local macro_rules | `($a⊆($b, $c, $d, $e, $f, $g, $h, $i)) => `(@zfO _ _ _ _ _ _ _ $a $b $c _ _ _ _ (id (α := CSc $d (zac $e) $a $b $c _) ⟨by rfl, by decide +kernel, by decide +kernel, by decide +kernel, by decide +kernel, by rfl, by decide +kernel⟩) rfl $f (fun cl C fp s H => $g) (fun _ _ _ _ _ => $h) (fun _ _ _ _ _ => $i) (by intro _; rfl))
set_option hygiene false in
local macro_rules | `($a⊇$b) => `(@ze3 _ _ $a _ (by show List.Nodup ($b : List Str); decide +kernel) rfl (by trivial) (by trivial))
theorem zgJ:PySem.Challenge.rw_roundwords_k14_wheels_or_none.wellSaid=true:=by decide +kernel
section
namespace L2
inductive Ex2 (p:a0→a1→Prop):Prop|mk x0 x1 (h:p x0 x1):Ex2 p
inductive Ex3 (p:a0→a1→a2→Prop):Prop|mk x0 x1 x2 (h:p x0 x1 x2):Ex3 p
inductive Ex4 (p:a0→a1→a2→a3→Prop):Prop|mk x0 x1 x2 x3 (h:p x0 x1 x2 x3):Ex4 p
inductive Ex5 (p:a0→a1→a2→a3→a4→Prop):Prop|mk x0 x1 x2 x3 x4 (h:p x0 x1 x2 x3 x4):Ex5 p
inductive Ex6 (p:a0→a1→a2→a3→a4→a5→Prop):Prop|mk x0 x1 x2 x3 x4 x5 (h:p x0 x1 x2 x3 x4 x5):Ex6 p
inductive Ex9 (p:a0→a1→a2→a3→a4→a5→a6→a7→a8→Prop):Prop|mk x0 x1 x2 x3 x4 x5 x6 x7 x8 (h:p x0 x1 x2 x3 x4 x5 x6 x7 x8):Ex9 p
end L2
open L2
namespace L2
open PySem PySem.Spec PyProof.Rows
abbrev Key:=Sum Int Str
def zew:Key→Value→Bool
  | .inl k,v=>Value.isInt k v
  | .inr x,v=>Value.isStrOf x v
def keyH (w:World):Key→Int
  | .inl k=>hashInt k
  | .inr x=>hashStr w x
theorem yas:∀ {k:Key} {v:Value},zew k v=true→(Ex2 fun i t=>k=Sum.inl i∧v=Value.int i t)∨(Ex2 fun x t=>k=Sum.inr x∧v=Value.str x t)
  | .inl i,v,h=>by
    obtain ⟨t,e⟩:=Value.isInt_shape (k:=i) (v:=v) h
    exact .inl ⟨i,t,rfl,e⟩
  | .inr x,v,h=>by
    obtain ⟨t,e⟩:=Value.isStrOf_shape (x:=x) (v:=v) h
    exact .inr ⟨x,t,rfl,e⟩
theorem yeW (i:Int) (t:Tok):zew (.inl i) (.int i t)=true:=by simp [zew,Value.isInt]
theorem zeH (x:Str) (t:Tok):zew (.inr x) (.str x t)=true:=by simp [zew,Value.isStrOf]
theorem zg4 (a b:Int):decide ((Sum.inl a:Key)=Sum.inl b)=(a==b):=by
  by_cases e:a=b
  · subst e;simp
  · have h:¬ (Sum.inl a:Key)=Sum.inl b:=fun q=>e (Sum.inl.inj q)
    rw [decide_eq_false h]
    exact (beq_eq_false_iff_ne.mpr e).symm
theorem yg3 (a b:Str):decide ((Sum.inr a:Key)=Sum.inr b)=decide (a=b):=by
  by_cases e:a=b
  · subst e;simp
  · have h:¬ (Sum.inr a:Key)=Sum.inr b:=fun q=>e (Sum.inr.inj q)
    rw [decide_eq_false h,decide_eq_false e]
theorem ygT (a:Int) (b:Str):decide ((Sum.inl a:Key)=Sum.inr b)=false:=decide_eq_false (fun q=>nomatch q)
theorem zgV (a:Str) (b:Int):decide ((Sum.inr a:Key)=Sum.inl b)=false:=decide_eq_false (fun q=>nomatch q)
noncomputable def zat (prog:Program) (w:World):PySem.KeyKind prog w Key where
  is:=zew
  hash:=keyH w
  inj:=fun v a b ha hb=>by
    rcases yas ha with ⟨i,t,rfl,rfl⟩ | ⟨x,t,rfl,rfl⟩
    · rcases yas hb with ⟨j,u,rfl,e⟩ | ⟨y,u,rfl,e⟩
      · injection e with e1 _;rw [e1]
      · exact nomatch e
    · rcases yas hb with ⟨j,u,rfl,e⟩ | ⟨y,u,rfl,e⟩
      · exact nomatch e
      · injection e with e1 _;rw [e1]
  byValue:=fun k v h=>by
    rcases yas h with ⟨i,t,rfl,rfl⟩ | ⟨x,t,rfl,rfl⟩ <;> rfl
  pyHash:=fun hv h=>by
    rcases yas hv with ⟨i,t,rfl,rfl⟩ | ⟨x,t,rfl,rfl⟩
    · exact wpAny_pyHash_int h
    · exact wpAny_pyHash_str h
  eqBool:=fun hu hv h=>by
    rcases yas hu with ⟨i,t,rfl,rfl⟩ | ⟨x,t,rfl,rfl⟩
    · rcases yas hv with ⟨j,u,rfl,rfl⟩ | ⟨y,u,rfl,rfl⟩
      · rw [zg4] at h;exact wpAny_eqBool_int h
      · rw [ygT] at h;exact SeqAt.EqAt.int_str i t y u _ _ _ _ h
    · rcases yas hv with ⟨j,u,rfl,rfl⟩ | ⟨y,u,rfl,rfl⟩
      · rw [zgV] at h;exact SeqAt.EqAt.str_int x t j u _ _ _ _ h
      · rw [yg3] at h;exact wpAny_eqBool_str h
  «strs»:=fun k x t v h=>by
    rcases yas h with ⟨i,u,rfl,e⟩ | ⟨y,u,rfl,e⟩
    · exact nomatch e
    · injection e with e1 _
      subst e1
      cases v <;> rfl
theorem yd1 (prog:Program) (w:World) (i:Int) (t:Tok):(zat prog w).is (.inl i) (.int i t)=true:=yeW i t
theorem zdK (prog:Program) (w:World) (x:Str) (t:Tok):(zat prog w).is (.inr x) (.str x t)=true:=zeH x t
end L2
namespace L2
open PySem PySem.Spec PyProof.Rows
inductive V where
  | non|bl (b:Bool)|int (i:Int)|str (x:Str)|byt (b:Array UInt8)|flt (b:UInt64)|ref (a:Addr)|ty (n:String)
  deriving DecidableEq
noncomputable def RelV:V→Value→Prop
  | .non,u=>u=Value.none
  | .bl b,u=>u=Value.bool b
  | .int i,u=>∃t,u=Value.int i t
  | .str x,u=>∃t,u=Value.str x t
  | .byt b,u=>∃t,u=Value.bytes b t
  | .flt b,u=>∃t,u=Value.float b t
  | .ref a,u=>u=Value.ref a
  | .ty n,u=>u=Value.type n
abbrev Vals:List V→List Value→Prop:=Paired RelV
theorem Vals.length (r:Vals xs us):xs.length=us.length:=Paired.length r
theorem Vals.get:∀ {xs:List V} {us:List Value} {i:Nat} {x:V},Vals xs us→xs[i]?=some x→∃u,us[i]?=some u∧RelV x u
  | _,_,_,_,.nil,e=>by simp at e
  | _,_,0,_,.cons r _,e=>by simp at e;subst e;exact ⟨_,rfl,r⟩
  | _,_,i+1,x,.cons _ t,e=>by
    obtain ⟨u,h1,h2⟩:=Vals.get (i:=i) (x:=x) t (by simpa using e)
    exact ⟨u,by simpa using h1,h2⟩
theorem Vals.set (r:RelV x u):∀ {xs:List V} {us:List Value} (i:Nat),Vals xs us→Vals (xs.set i x) (us.set i u)
  | _,_,_,.nil=>.nil
  | _,_,0,.cons _ t=>.cons r t
  | _,_,i+1,.cons q t=>.cons q (Vals.set r i t)
theorem Vals.append:∀ {xs ys:List V} {us ws:List Value},Vals xs us→Vals ys ws→Vals (xs++ys) (us++ws)
  | _,_,_,_,.nil,s=>s
  | _,_,_,_,.cons r t,s=>.cons r (Vals.append t s)
theorem Vals.take:∀ {xs:List V} {us:List Value} (n:Nat),Vals xs us→Vals (xs.take n) (us.take n)
  | _,_,0,_=>.nil
  | _,_,_+1,.nil=>.nil
  | _,_,n+1,.cons r t=>.cons r (Vals.take n t)
theorem Vals.drop:∀ {xs:List V} {us:List Value} (n:Nat),Vals xs us→Vals (xs.drop n) (us.drop n)
  | _,_,0,r=>r
  | _,_,_+1,.nil=>.nil
  | _,_,n+1,.cons _ t=>Vals.drop n t
def RelO:Option V→Option Value→Prop
  | some v,some u=>RelV v u
  | none,none=>True
  | _,_=>False
def KV {κ:Type}:List (κ×V)→List (κ×Value)→Prop:=Paired fun (p:κ×V) (q:κ×Value)=>p.1=q.1∧RelV p.2 q.2
def kV:Key→V
  | .inl i=>.int i
  | .inr x=>.str x
inductive HO where
  | lst (xs:List V)
  | tup (xs:List V)
  | dK (kvs:List (Key×V))|dT (kvs:List (List Key×V))
  | set (S:Int→Bool) (n:Nat)
  | ins (C dx:Addr) (fs:List (Str×V))
  | own (x:Addr)
  | xd (fs:List (Str×V))
  | met (f x:Addr)
  | rng (lo hi:Int)
  | frz (o:Obj) (u:HO)
  | tbl (ps:Array Value)
  | ext (φ:Heap→Prop)
abbrev Hp:=Addr→Option HO
def upd (H:Hp) (a:Addr) (o:HO):Hp:=fun b=>if b=a then some o else H b
theorem zab:upd H a o a=some o:=by unfold upd;rw [if_pos rfl]
theorem yad {o:HO} (h:b≠a):upd H a o b=H b:=by unfold upd;rw [if_neg h]
theorem zdY:upd (upd H a o) a u=upd H a u:=by
  funext b;unfold upd;split <;> rfl
theorem yac {H:Hp} {a b:Addr} {o:HO} (h:H a=some o) (h':H b=none):a≠b:=by
  intro e;subst e;rw [h] at h';cases h'
section
variable (P:Program) (w:World)
noncomputable def yaZ (H:Hp) (h:Heap) (a:Addr):HO→Prop
  | .lst xs=>xs.length≤sizeLine∧Ex2 fun (its:List Value) (n:Nat)=>Vals xs its∧h.get? a=some { cls:=.type "list",data:=.seq its.toArray n }
  | .tup xs=>xs.length≤sizeLine∧∃its:List Value,Vals xs its∧IsTup h a its.toArray
  | .dK kvs=>kvs.length≤sizeLine∧(a==sysModules)=false∧∃vs,KV kvs vs∧h.DictOf (zat P w) a vs
  | .dT kvs=>kvs.length≤sizeLine∧(a==sysModules)=false∧∃xs:List (List Key×Addr×Value),
      Paired (fun (p:List Key×V) (q:List Key×Addr×Value)=>p.1=q.1∧H q.2.1=some (.tup (p.1.map kV))∧RelV p.2 q.2.2) kvs xs∧
      Ex3 fun o es ep=>h.get? a=some o∧o.ExactDict∧o.data = .dict es ep∧es.toList=xs.map (entryOfKey (tupleKind (zat P w)))∧(xs.map (·.1)).Nodup
  | .set S n=>h.SetOf (intKind P w) a S n
  | .ins C dx fs=>H dx=some (.own a)∧fs.length≤1000∧dx≠a∧h.get? a=some (PySem.W.instObj C dx)∧
      ∃mA,h.Ns1 dx mA∧(∀f,RelO (fs.lookup f) (mA f))∧PySem.Within mA (fs.map (·.1))
  | .own _=>∃o,h.get? a=some o
  | .xd fs=>∃mA,h.Ns1 a mA∧∀f,RelO (fs.lookup f) (mA f)
  | .rng lo hi=>Ex3 fun t u v=>h.get? a=some { cls:=.type "range",data:=.fields #[.int lo t,.int hi u,.int 1 v] }
  | .frz o u=>h.get? a=some o∧yaZ H h a u
  | .tbl ps=>h.get? a=some { cls:=.none,data:=.fields ps }
  | .met f x=>h.get? a=some (PySem.W.methodObj (.ref f) (.ref x))
  | .ext φ=>φ h∧(∃o,h.get? a=some o)∧∀h1 h2:Heap,φ h1→(∀o,h1.get? a=some o→h2.get? a=some o)→φ h2
def HOk (H:Hp) (h:Heap):Prop:=∀a o,H a=some o→yaZ P w H h a o
end
section
variable {P:Program} {w:World} {H H':Hp} {h h':Heap} {a:Addr} {o:HO}
theorem yaZ.lt (x:yaZ P w H h a o):a<h.objs.size:=by
  cases o with
  | lst xs=>obtain ⟨_,_,_,_,e⟩:=x;exact Heap.lt_size e
  | tup xs=>obtain ⟨_,_,_,p⟩:=x;exact p.lt
  | dK kvs=>obtain ⟨_,_,_,_,o,_,_,e,_⟩:=x;exact Heap.lt_size e
  | dT kvs=>obtain ⟨_,_,_,_,o,_,_,e,_⟩:=x;exact Heap.lt_size e
  | set S n=>obtain ⟨o,_,_,_,e,_⟩:=x;exact Heap.lt_size e
  | ins C dx fs=>obtain ⟨_,_,_,e,_⟩:=x;exact Heap.lt_size e
  | own y=>obtain ⟨_,e⟩:=x;exact Heap.lt_size e
  | xd fs=>obtain ⟨_,⟨_,_,_,e,_⟩,_⟩:=x;exact Heap.lt_size e
  | rng lo hi=>obtain ⟨_,_,_,e⟩:=x;exact Heap.lt_size e
  | frz ob u=>obtain ⟨e,_⟩:=x;exact Heap.lt_size e
  | tbl ps=>exact Heap.lt_size (show h.get? a=some _ from x)
  | met f y=>exact Heap.lt_size (show h.get? a=some _ from x)
  | ext φ=>obtain ⟨_,⟨_,e⟩,_⟩:=x;exact Heap.lt_size e
theorem Paired.mapP {α β:Type} {F G:α→β→Prop}:∀ {l₁:List α} {l₂:List β},Paired F l₁ l₂→(∀a b,F a b→G a b)→Paired G l₁ l₂
  | _,_,.nil,_=>.nil
  | _,_,.cons r t,f=>.cons (f _ _ r) (Paired.mapP t f)
theorem yaZ.stay (x:yaZ P w H h a o) (k:∀b u,(b=a∨H b=some (.own a))→h.get? b=some u→h'.get? b=some u)
    (ho:∀b,H b=some (.own a)→H' b=some (.own a)) (ht:∀b xs,H b=some (.tup xs)→H' b=some (.tup xs)):yaZ P w H' h' a o:=by
  induction o with
  | lst xs=>obtain ⟨z,its,n,r,e⟩:=x;exact ⟨z,its,n,r,k _ _ (.inl rfl) e⟩
  | tup xs=>obtain ⟨z,its,r,ob,e,c⟩:=x;exact ⟨z,its,r,ob,k _ _ (.inl rfl) e,c⟩
  | dK kvs=>obtain ⟨z,y,vs,r,ob,es,ep,e,c⟩:=x;exact ⟨z,y,vs,r,ob,es,ep,k _ _ (.inl rfl) e,c⟩
  | dT kvs =>
    obtain ⟨z,y,xs,r,ob,es,ep,e,c⟩:=x
    exact ⟨z,y,xs,Paired.mapP r fun p q z=>⟨z.1,ht _ _ z.2.1,z.2.2⟩,ob,es,ep,k _ _ (.inl rfl) e,c⟩
  | set S n=>obtain ⟨ob,es,ep,t,e,c⟩:=x;exact ⟨ob,es,ep,t,k _ _ (.inl rfl) e,c⟩
  | ins C dx fs =>
    obtain ⟨d,z,ne,e,mA,⟨od,es,ep,e2,c⟩,r⟩:=x
    exact ⟨ho _ d,z,ne,k _ _ (.inl rfl) e,mA,⟨od,es,ep,k _ _ (.inr d) e2,c⟩,r⟩
  | own y=>obtain ⟨ob,e⟩:=x;exact ⟨ob,k _ _ (.inl rfl) e⟩
  | xd fs=>obtain ⟨mA,⟨od,es,ep,e,c⟩,r⟩:=x;exact ⟨mA,⟨od,es,ep,k _ _ (.inl rfl) e,c⟩,r⟩
  | rng lo hi=>obtain ⟨t,u,v,e⟩:=x;exact ⟨t,u,v,k _ _ (.inl rfl) e⟩
  | frz ob u ih=>obtain ⟨e,q⟩:=x;exact ⟨k _ _ (.inl rfl) e,ih q⟩
  | tbl ps =>
    have e:h.get? a=some { cls:=.none,data:=.fields ps }:=x
    show h'.get? a=some { cls:=.none,data:=.fields ps }
    exact k a _ (.inl rfl) e
  | met f y =>
    have e:h.get? a=some (PySem.W.methodObj (.ref f) (.ref y)):=x
    show h'.get? a=some (PySem.W.methodObj (.ref f) (.ref y))
    exact k a _ (.inl rfl) e
  | ext φ=>obtain ⟨p,⟨o,e⟩,st⟩:=x;exact ⟨st _ _ p fun o q=>k _ _ (.inl rfl) q,⟨o,k _ _ (.inl rfl) e⟩,st⟩
theorem HOk.lt (x:HOk P w H h) (e:H a=some o):a<h.objs.size:=(x a o e).lt
theorem HOk.fresh (x:HOk P w H h) (e:h.objs.size≤a):H a=none:=by
  cases q:H a with
  | none=>rfl
  | some u=>exact absurd (Nat.lt_of_lt_of_le (x.lt q) e) (Nat.lt_irrefl _)
theorem HOk.kept (x:HOk P w H h) (k:∀b u,h.get? b=some u→h'.get? b=some u):HOk P w H h':=fun a o e =>
  (x a o e).stay (fun b u _ q=>k b u q) (fun _ q=>q) fun _ _ q=>q
theorem HOk.laid (x:HOk P w H h) (k:∀b u,h.get? b=some u→h'.get? b=some u) (hp:h.objs.size≤a) (new:yaZ P w (upd H a o) h' a o):HOk P w (upd H a o) h':=fun b u e=>by
  have hn:=x.fresh hp
  by_cases hb:b=a
  · subst hb;rw [zab] at e;cases e;exact new
  · rw [yad hb] at e
    exact (x b u e).stay (fun c v _ q=>k c v q) (fun c q=>by rw [yad (yac q hn)];exact q) fun c xs q=>by rw [yad (yac q hn)];exact q
end
def Rd (H:Hp) (a:Addr) (u:HO):Prop:=H a=some u∨∃o,H a=some (.frz o u)
theorem Rd.ok (r:Rd H a u) (x:HOk P w H h):yaZ P w H h a u:=by
  rcases r with r | ⟨o,r⟩
  · exact x a u r
  · obtain ⟨_,q⟩:=x a _ r
    exact q
noncomputable def Mut:Option HO→Prop
  | some (.lst _)=>True
  | some (.dK _)=>True
  | some (.dT _)=>True
  | some (.set _ _)=>True
  | some (.ins _ _ _)=>True
  | some (.ext _)=>True
  | _=>False
section
variable {P:Program} {w:World} {H:Hp} {h h':Heap} {x e:Addr} {o':HO}
theorem HOk.write (ok:HOk P w H h) (mu:Mut (H x)) (he:e=x∨H e=some (.own x)) (k:∀b u,b≠e→h.get? b=some u→h'.get? b=some u) (heo:∃u,h'.get? e=some u)
    (new:yaZ P w (upd H x o') h' x o'):HOk P w (upd H x o') h':=fun b u q=>by
  have nown:∀c y,H c=some (.own y)→c≠x:=fun c y r z=>by subst z;rw [r] at mu;exact mu
  have ntup:∀c xs,H c=some (.tup xs)→c≠x:=fun c xs r z=>by subst z;rw [r] at mu;exact mu
  by_cases hb:b=x
  · subst hb;rw [zab] at q;cases q;exact new
  · rw [yad hb] at q
    by_cases hbe:b=e
    · have q':H b=some (.own x):=by
        rcases he with z|z
        · exact absurd (hbe.trans z) hb
        · rw [hbe];exact z
      rw [q] at q';cases q'
      obtain ⟨v,hv⟩:=heo
      exact ⟨v,by rw [hbe];exact hv⟩
    · refine (ok b u q).stay (fun c v hc r=>k c v ?_ r) (fun c r=>by rw [yad (nown c b r)];exact r) fun c xs r=>by rw [yad (ntup c xs r)];exact r
      rcases hc with rfl|hc
      · exact hbe
      · rintro rfl
        rcases he with z|z
        · exact nown c b hc z
        · rw [hc] at z;cases z;exact hb rfl
end
structure Un (fs ex:List Addr) (H H':Hp) (h h':Heap):Prop where
  keep:∀b o,h.get? b=some o→H b=none→b∉fs→b∉ex→h'.get? b=some o
  slot:∀b o,h.get? b=some o→H b=none→b∈fs→b∉ex→∃sl,h'.get? b=some { o with slots:=sl }
  free:∀b o,h.get? b=some o→H b=none→b∉ex→H' b=none
  there:∀b o,h.get? b=some o→b∉ex→∃o',h'.get? b=some o'
  tups:∀b xs,H b=some (.tup xs)→H' b=some (.tup xs)
  frzs:∀b o u,H b=some (.frz o u)→H' b=some (.frz o u)
  tbls:∀b ps,H b=some (.tbl ps)→∃more,H' b=some (.tbl (ps++more))
section
variable {fs fs' ex ex':List Addr} {H H1 H2:Hp} {h h1 h2 h':Heap} {a x e:Addr} {o:HO}
theorem Un.any (u:Un fs ex H H1 h h1) (q:h.get? b=some ob) (n:H b=none) (hx:b∉ex):∃sl,h1.get? b=some { ob with slots:=sl }:=by
  by_cases hb:b∈fs
  · exact u.slot b ob q n hb hx
  · exact ⟨ob.slots,u.keep b ob q n hb hx⟩
theorem Un.kept (k:∀b u,h.get? b=some u→h'.get? b=some u):Un fs ex H H h h' :=
  ⟨fun b ob q _ _ _=>k b ob q,fun b ob q _ _ _=>⟨ob.slots,k b ob q⟩,fun _ _ _ n _=>n,fun b ob q _=>⟨ob,k b ob q⟩,fun _ _ q=>q,fun _ _ _ q=>q,fun _ ps q=>⟨#[],by rw [q];simp⟩⟩
theorem Un.refl:Un fs ex H H h h:=Un.kept fun _ _ q=>q
theorem Un.laid (k:∀b u,h.get? b=some u→h'.get? b=some u) (hp:h.objs.size≤a) (hn:H a=none):Un fs ex H (upd H a o) h h' where
  keep:=fun b u q _ _ _=>k b u q
  slot:=fun b u q _ _ _=>⟨u.slots,k b u q⟩
  free:=fun b u q n _=>by rw [yad (Nat.ne_of_lt (Nat.lt_of_lt_of_le (Heap.lt_size q) hp))];exact n
  there:=fun b u q _=>⟨u,k b u q⟩
  tups:=fun b xs q=>by rw [yad (yac q hn)];exact q
  frzs:=fun b u xs q=>by rw [yad (yac q hn)];exact q
  tbls:=fun b ps q=>⟨#[],by rw [yad (yac q hn),q];simp⟩
theorem Un.write (mu:Mut (H x)) (he:e=x∨H e=some (.own x)) (k:∀b u,b≠e→h.get? b=some u→h'.get? b=some u) (heo:∃u,h'.get? e=some u):Un fs ex H (upd H x o) h h':=by
  have hx:∀b,H b=none→b≠x:=fun b n z=>by subst z;rw [n] at mu;exact mu
  have hb:∀b,H b=none→b≠e:=fun b n z=>by
    subst z
    rcases he with r|r
    · exact hx b n r
    · rw [n] at r;cases r
  have hm:∀b u,H b=some u→¬ Mut (some u)→b≠x:=fun b u q nm z=>by subst z;rw [q] at mu;exact nm mu
  refine ⟨fun b u q n _ _=>k b u (hb b n) q,fun b u q n _ _=>⟨u.slots,k b u (hb b n) q⟩,fun b u q n _=>by rw [yad (hx b n)];exact n,fun b u q _=>?_,
    fun b xs q=>by rw [yad (hm b _ q fun z=>z)];exact q,fun b u xs q=>by rw [yad (hm b _ q fun z=>z)];exact q,fun b ps q=>⟨#[],by rw [yad (hm b _ q fun z=>z),q];simp⟩⟩
  by_cases hbe:b=e
  · subst hbe;exact heo
  · exact ⟨u,k b u hbe q⟩
end
def trk (h:Heap) (H:Hp):List Addr:=(List.range h.objs.size).filter fun a=>(H a).isSome
def hidT (h:Heap) (H:Hp):Heap:=PySem.W.hideAll h (trk h H)
theorem ye4 (h:Heap) (H:Hp):(hidT h H).objs.size=h.objs.size:=PySem.W.hideAll_size _ _
theorem zfH (e:h.get? b=some o) (n:H b=none):(hidT h H).get? b=some o :=
  PySem.W.hideAll_get _ e fun hm=>by
    have q:(H b).isSome=true:=(List.mem_filter.mp hm).2
    rw [n] at q;simp at q
theorem zgr (e:(hidT h H).get? b=some o):h.get? b=some o∧H b=none:=by
  have e':h.get? b=some o:=PySem.W.of_hideAll (trk h H) e
  refine ⟨e',?_⟩
  cases q:H b with
  | none=>rfl
  | some x =>
    have hm:b∈trk h H:=List.mem_filter.mpr ⟨List.mem_range.mpr (Heap.lt_size e'),by simp [q]⟩
    have z:(hidT h H).get? b=none:=PySem.W.hideAll_none (trk h H) hm
    rw [z] at e;cases e
end L2
namespace L2
open PySem PySem.Spec PyProof.Rows
structure Mod (K:PySem.W.Frag) (mg:Str→Option Value) (base:Heap):Prop where
  kin:K.In base
  glob:base.Ns mainGlobals mg
  blt:∃mb,base.Ns builtinsNs mb∧∀x:Str,x≠"__name__"→mb x=bootBuiltins x
  nolimit:base.NoLimit
structure Cx where
  prog:Program
  w:World
  K:PySem.W.Frag
  mg:Str→Option Value
  base:Heap
  A:Around
  N:List Str
  s₀:Shared
  H₀:Hp
  env:Env
  outer:List Env
  stack:List Env
  ex:List Addr
  fn:Str→Bool
  calm:Bool
  pn:List (Addr×Obj)
  xe:Value→Shared→Prop
def frs (l:List Env):List Addr:=l.filterMap (·.frame)
abbrev Cx.fs (X:Cx):List Addr:=frs X.outer
noncomputable def Vis (sc:Scope) (x:Str):Prop:=sc.names.lookup x=some .local∨sc.names.lookup x=some .cell∨sc.names.lookup x=some .free
def Loc (sc:Scope) (x:Str):Prop:=sc.names.lookup x=some .local∨sc.names.lookup x=some .cell
noncomputable def Look (env:Env) (h:Heap) (m:Str→Option Value) (x:Str) (u:Value):Prop :=
  (env.kindOf x=some .local∧m x=some u)∨((env.kindOf x=some .cell∨env.kindOf x=some .free)∧∃c,env.cells.lookup x=some c∧h.IsCell c (some u))
structure Cx.Ok (X:Cx):Prop where
  mod:Mod X.K X.mg X.base
  kind:X.env.scope.kind = .function
  glob:X.env.globals=mainGlobals
  blt:X.env.builtins=builtinsNs
  above:X.s₀.heap.objs.size≤X.env.locals
  inj:∀x y c,X.env.cells.lookup x=some c→X.env.cells.lookup y=some c→x=y
  has:∀x,(X.env.kindOf x=some .cell∨X.env.kindOf x=some .free)→∃c,X.env.cells.lookup x=some c
  cab:∀x c,X.fn x=true→X.env.cells.lookup x=some c→X.s₀.heap.objs.size≤c
  hd:X.calm=true→X.A.handled=none
  frames:X.A.frames=some X.stack
  stk:X.stack=X.outer∨(X.stack=X.env::X.outer∧X.env.frame=some X.env.locals)
  exf:∀b∈X.ex,b≠X.env.locals∧∀x c,X.env.cells.lookup x=some c→c≠b
  bs:∀b o,X.base.get? b=some o→X.s₀.heap.get? b=some o∧X.H₀ b=none
  bsz:X.base.objs.size≤X.s₀.heap.objs.size
  noex:∀b o,X.base.get? b=some o→b∉X.ex
  exfs:∀b∈X.ex,b∉X.fs
  funs:X.s₀.heap.FunFrames X.base X.outer
  frf:∀b∈X.fs,X.H₀ b=none
structure Inv (X:Cx) (pins:List (Addr×Obj)) (σ:List (Option V)) (H:Hp) (s:Shared):Prop where
  ok:X.Ok
  os:s.os=X.s₀.os
  bare:AllBare s.gens
  base:Un X.fs X.ex X.H₀ H X.s₀.heap s.heap
  loc:∃m,s.heap.Ns X.env.locals m∧∀(i:Nat) (x:Str) (v:V),X.N[i]?=some x→σ[i]?=some (some v)→Vis X.env.scope x→∃u,RelV v u∧Look X.env s.heap m x u
  cell:∀x c,X.env.cells.lookup x=some c→∃v,s.heap.IsCell c v
  free:H X.env.locals=none
  freeC:∀x c,X.env.cells.lookup x=some c→H c=none
  pin:∀p∈X.pn++pins,s.heap.get? p.1=some p.2∧H p.1=none∧p.1≠X.env.locals∧p.1∉X.fs∧∀v,p.2.data≠.cell v
  hok:HOk X.prog X.w H s.heap
  len:σ.length=X.N.length
section
variable {X:Cx} {pins:List (Addr×Obj)} {σ:List (Option V)} {H H':Hp} {s:Shared} {h':Heap}
theorem Cx.Ok.nofr (ok:X.Ok) (e:X.base.get? b=some o):b∉X.fs:=fun hb=>by
  have:=(ok.funs.mem hb).1
  rw [e] at this;cases this
theorem Inv.bs (I:Inv X pins σ H s):∀b o,X.base.get? b=some o→s.heap.get? b=some o∧H b=none:=fun b o e =>
  ⟨I.base.keep b o (I.ok.bs b o e).1 (I.ok.bs b o e).2 (I.ok.nofr e) (I.ok.noex b o e),I.base.free b o (I.ok.bs b o e).1 (I.ok.bs b o e).2 (I.ok.noex b o e)⟩
theorem Inv.bk (I:Inv X pins σ H s):∀b o,X.base.get? b=some o→s.heap.get? b=some o:=fun b o e=>(I.bs b o e).1
theorem Inv.mod (I:Inv X pins σ H s):Mod X.K X.mg X.base:=I.ok.mod
theorem Inv.kIn (I:Inv X pins σ H s):X.K.In s.heap:=I.ok.mod.kin.keeps I.bk
theorem Inv.lt (I:Inv X pins σ H s):X.env.locals<s.heap.objs.size:=let ⟨_,hn,_⟩:=I.loc;hn.lt
theorem Inv.sz (I:Inv X pins σ H s):X.s₀.heap.objs.size≤s.heap.objs.size:=Nat.le_trans I.ok.above (Nat.le_of_lt I.lt)
theorem Inv.nofs (I:Inv X pins σ H s) (h:s.heap.objs.size≤a):a∉X.fs:=fun hb=>by
  obtain ⟨_,o,ho,_⟩:=I.ok.funs.mem hb
  exact absurd (Nat.lt_of_lt_of_le (Heap.lt_size ho) (Nat.le_trans I.sz h)) (Nat.lt_irrefl _)
theorem Inv.cne (I:Inv X pins σ H s):∀x c,X.env.cells.lookup x=some c→c≠X.env.locals:=fun x c e z=>by
  obtain ⟨v,o,ho,hd⟩:=I.cell x c e
  obtain ⟨m,⟨o',es,ep,ho',hd',_⟩,_⟩:=I.loc
  rw [z,ho'] at ho;cases ho;rw [hd'] at hd;cases hd
theorem Inv.funs (I:Inv X pins σ H s):s.heap.FunFrames X.base X.outer:=by
  have all:∀(l:List Env),(∀b∈frs l,b∈X.fs)→X.s₀.heap.FunFrames X.base l→s.heap.FunFrames X.base l:=by
    intro l
    induction l with
    | nil=>intro _ _;trivial
    | cons env r ih =>
      intro hs hl
      obtain ⟨hk,⟨L,o,hf,hn,ho,hd⟩,hr⟩:=hl
      have hL:L∈X.fs:=hs L (by unfold frs;rw [List.filterMap_cons,hf];exact List.mem_cons_self)
      obtain ⟨sl,e⟩:=I.base.slot L o ho (I.ok.frf L hL) hL fun z=>I.ok.exfs L z hL
      exact ⟨hk,⟨L,_,hf,hn,e,hd⟩,ih (fun b hb=>hs b (by unfold frs;rw [List.filterMap_cons,hf];exact List.mem_cons_of_mem _ hb)) hr⟩
  exact all X.outer (fun _ hb=>hb) I.ok.funs
theorem Inv.stack (I:Inv X pins σ H s):s.heap.FunFrames X.base X.stack:=by
  rcases I.ok.stk with e | ⟨e,hf⟩
  · rw [e];exact I.funs
  · rw [e]
    obtain ⟨m,hn,_⟩:=I.loc
    refine .cons (by rw [I.ok.kind];decide) hf hn ?_ I.funs
    exact Heap.get?_none_of_le (Nat.le_trans I.ok.bsz I.ok.above)
theorem Inv.stkSub (I:Inv X pins σ H s):∀b∈frs X.stack,b∈X.env.locals::X.fs:=fun b hb=>by
  rcases I.ok.stk with e | ⟨e,hf⟩
  · rw [e] at hb;exact List.mem_cons_of_mem _ hb
  · rw [e] at hb
    unfold frs at hb
    rw [List.filterMap_cons,hf] at hb
    exact hb
theorem Inv.stkFree (I:Inv X pins σ H s):∀b∈frs X.stack,H b=none:=fun b hb=>by
  rcases List.mem_cons.mp (I.stkSub b hb) with e|hb
  · rw [e];exact I.free
  · obtain ⟨_,o,ho,_⟩:=I.ok.funs.mem hb
    exact I.base.free b o ho (I.ok.frf b hb) fun z=>I.ok.exfs b z hb
theorem Inv.step {g':Array GenState} {t':Nat} {d':Drawn} {ch:List Addr} (I:Inv X pins σ H s)
    (hch:∀b∈ch,(b∈X.ex∨X.s₀.heap.objs.size≤b)∧b≠X.env.locals∧(∀x c,X.env.cells.lookup x=some c→c≠b)∧∀p∈X.pn++pins,p.1≠b)
    (keep:∀b o,b≠X.env.locals→b∉X.fs→b∉ch→s.heap.get? b=some o→H b=none→h'.get? b=some o)
    (slot:∀b o,b≠X.env.locals→b∈X.fs→b∉ch→s.heap.get? b=some o→H b=none→∃sl,h'.get? b=some { o with slots:=sl }) (free:∀b o,b∉ch→s.heap.get? b=some o→H b=none→H' b=none)
    (there:∀b o,b∉ch→s.heap.get? b=some o→∃o',h'.get? b=some o')
    (tups:∀b xs,H b=some (.tup xs)→H' b=some (.tup xs)) (frzs:∀b o u,H b=some (.frz o u)→H' b=some (.frz o u)) (tbls:∀b ps,H b=some (.tbl ps)→∃more,H' b=some (.tbl (ps++more)))
    (ns:∀m,s.heap.Ns X.env.locals m→h'.Ns X.env.locals m) (hok:HOk X.prog X.w H' h') (hg:AllBare g') :
    Inv X pins σ H' { s with heap:=h',gens:=g',drawn:=d',toks:=t' }:=by
  have neL:∀b o,X.s₀.heap.get? b=some o→b≠X.env.locals:=fun b o e=>Nat.ne_of_lt (Nat.lt_of_lt_of_le (Heap.lt_size e) I.ok.above)
  have neC:∀b o,X.s₀.heap.get? b=some o→b∉X.ex→b∉ch:=fun b o e hx hb=>by
    rcases (hch b hb).1 with z|z
    · exact hx z
    · exact absurd (Nat.lt_of_lt_of_le (Heap.lt_size e) z) (Nat.lt_irrefl _)
  have cellK:∀x c,X.env.cells.lookup x=some c→∀v,s.heap.IsCell c v→h'.IsCell c v:=fun x c e v ⟨o,ho,hd⟩=>by
    have nch:c∉ch:=fun z=>(hch c z).2.2.1 x c e rfl
    by_cases hc:c∈X.fs
    · obtain ⟨sl,q⟩:=slot c o (I.cne x c e) hc nch ho (I.freeC x c e)
      exact ⟨_,q,hd⟩
    · exact ⟨o,keep c o (I.cne x c e) hc nch ho (I.freeC x c e),hd⟩
  refine ⟨I.ok,I.os,hg,⟨fun b o e n hb hx=>?_,fun b o e n hb hx=>?_,fun b o e n hx=>?_,fun b o e hx=>?_,fun b xs e=>tups b xs (I.base.tups b xs e),fun b o xs e=>frzs b o xs (I.base.frzs b o xs e),fun b ps e=>?_⟩,?_,fun x c e=>?_,?_,fun x c e=>?_,fun p hp=>?_,hok,I.len⟩
  · exact keep b o (neL b o e) hb (neC b o e hx) (I.base.keep b o e n hb hx) (I.base.free b o e n hx)
  · obtain ⟨sl,e1⟩:=I.base.slot b o e n hb hx
    obtain ⟨sl',e2⟩:=slot b _ (neL b o e) hb (neC b o e hx) e1 (I.base.free b o e n hx)
    exact ⟨sl',e2⟩
  · obtain ⟨o',e1⟩:=I.base.there b o e hx
    exact free b o' (neC b o e hx) e1 (I.base.free b o e n hx)
  · obtain ⟨o',e1⟩:=I.base.there b o e hx
    exact there b o' (neC b o e hx) e1
  · obtain ⟨m1,e1⟩:=I.base.tbls b ps e
    obtain ⟨m2,e2⟩:=tbls b _ e1
    exact ⟨m1++m2,by rw [e2,Array.append_assoc]⟩
  · obtain ⟨m,hn,hl⟩:=I.loc
    refine ⟨m,ns m hn,fun i x v e1 e2 e3=>?_⟩
    obtain ⟨u,r,l⟩:=hl i x v e1 e2 e3
    refine ⟨u,r,?_⟩
    rcases l with l | ⟨k,c,e,z⟩
    · exact .inl l
    · exact .inr ⟨k,c,e,cellK x c e _ z⟩
  · obtain ⟨v,z⟩:=I.cell x c e
    exact ⟨v,cellK x c e v z⟩
  · obtain ⟨m,⟨o,_,_,ho,_⟩,_⟩:=I.loc
    exact free _ o (fun z=>(hch _ z).2.1 rfl) ho I.free
  · obtain ⟨v,o,ho,hd⟩:=I.cell x c e
    exact free c o (fun z=>(hch c z).2.2.1 x c e rfl) ho (I.freeC x c e)
  · obtain ⟨e,n,ne,nf,d⟩:=I.pin p hp
    have nch:p.1∉ch:=fun z=>(hch p.1 z).2.2.2 p hp rfl
    exact ⟨keep p.1 p.2 ne nf nch e n,free p.1 p.2 nch e n,ne,nf,d⟩
theorem Inv.un {t':Nat} (I:Inv X pins σ H s) (u:Un X.fs [] H H' s.heap h') (hok:HOk X.prog X.w H' h'):Inv X pins σ H' { s with heap:=h',toks:=t' }:=by
  obtain ⟨m,⟨o,es,ep,ho,r⟩,_⟩:=id I.loc
  obtain ⟨sl,hL⟩:=u.any ho I.free (by simp)
  exact I.step (g':=s.gens) (d':=s.drawn) (ch:=[]) (fun _ z=>nomatch z) (fun b o _ hb _ e n=>u.keep b o e n hb (by simp)) (fun b o _ hb _ e n=>u.slot b o e n hb (by simp)) (fun b o _ e n=>u.free b o e n (by simp)) (fun b o _ e=>u.there b o e (by simp)) u.tups u.frzs u.tbls (fun m' hm=>by
    obtain ⟨o',es',ep',ho',r'⟩:=hm
    rw [ho] at ho';cases ho'
    exact ⟨_,es',ep',hL,r'⟩) hok I.bare
theorem Inv.call {g':Array GenState} {t':Nat} {d':Drawn} (I:Inv X pins σ H s) (u:Un (frs X.stack) ch H H' s.heap h') (hok:HOk X.prog X.w H' h') (hg:AllBare g')
    (hch:∀b∈ch,(b∈X.ex∨X.s₀.heap.objs.size≤b)∧b≠X.env.locals∧(∀x c,X.env.cells.lookup x=some c→c≠b)∧∀p∈X.pn++pins,p.1≠b) :
    Inv X pins σ H' { s with heap:=h',gens:=g',drawn:=d',toks:=t' }:=by
  obtain ⟨m,⟨o,es,ep,ho,r⟩,_⟩:=id I.loc
  obtain ⟨sl,hL⟩:=u.any ho I.free fun z=>(hch _ z).2.1 rfl
  exact I.step (ch:=ch) hch (fun b o hL hb hc e n=>u.keep b o e n (fun z=>(List.mem_cons.mp (I.stkSub b z)).elim hL hb) hc) (fun b o _ _ hc e n=>u.any e n hc) (fun b o hc e n=>u.free b o e n hc) (fun b o hc e=>u.there b o e hc) u.tups u.frzs u.tbls (fun m' hm=>by
    obtain ⟨o',es',ep',ho',r'⟩:=hm
    rw [ho] at ho';cases ho'
    exact ⟨_,es',ep',hL,r'⟩) hok hg
theorem Inv.turned {t':Nat} (I:Inv X pins σ H s) (k:∀b o,b≠it→s.heap.get? b=some o→h'.get? b=some o) (hn:H it=none) (hL:it≠X.env.locals)
    (h1:it∈X.ex∨X.s₀.heap.objs.size≤it) (h2:∀x c,X.env.cells.lookup x=some c→c≠it) (h3:∀p∈X.pn++pins,p.1≠it):Inv X pins σ H { s with heap:=h',toks:=t' }:=by
  have nit:∀b u,H b=some u→b≠it:=fun b u e z=>by rw [z,hn] at e;cases e
  refine I.step (g':=s.gens) (d':=s.drawn) (ch:=[it]) (fun b hb=>?_) (fun b o _ _ hc e _=>k b o (fun z=>hc (by simp [z])) e) (fun b o _ _ hc e _=>⟨o.slots,k b o (fun z=>hc (by simp [z])) e⟩) (fun _ _ _ _ n=>n)
    (fun b o hc e=>⟨o,k b o (fun z=>hc (by simp [z])) e⟩) (fun _ _ e=>e) (fun _ _ _ e=>e) (fun b ps e=>⟨#[],by rw [e];simp⟩) (fun m hm=>?_) (fun b u e=>?_) I.bare
  · have e:b=it:=by simpa using hb
    subst e
    exact ⟨h1,hL,h2,h3⟩
  · obtain ⟨o,es,ep,ho,r⟩:=hm
    exact ⟨o,es,ep,k _ o (Ne.symm hL) ho,r⟩
  · refine (I.hok b u e).stay (fun c v hc q=>k c v ?_ q) (fun _ q=>q) fun _ _ q=>q
    rcases hc with z|z
    · rw [z];exact nit b u e
    · exact nit c _ z
theorem Inv.tok (I:Inv X pins σ H s) (t:Nat):Inv X pins σ H { s with toks:=t }:=I.un (h':=s.heap) (t':=t) Un.refl I.hok
theorem Inv.kept {t':Nat} (I:Inv X pins σ H s) (k:∀b u,s.heap.get? b=some u→h'.get? b=some u):Inv X pins σ H { s with heap:=h',toks:=t' }:=I.un (Un.kept k) (I.hok.kept k)
theorem Inv.laid {t':Nat} (I:Inv X pins σ H s) (k:∀b u,s.heap.get? b=some u→h'.get? b=some u) (hp:s.heap.objs.size≤a) (new:yaZ X.prog X.w (upd H a o) h' a o) :
    Inv X pins σ (upd H a o) { s with heap:=h',toks:=t' }:=I.un (Un.laid k hp (I.hok.fresh hp)) (I.hok.laid k hp new)
theorem Inv.write {t':Nat} (I:Inv X pins σ H s) (mu:Mut (H x)) (he:e=x∨H e=some (.own x)) (k:∀b u,b≠e→s.heap.get? b=some u→h'.get? b=some u) (heo:∃u,h'.get? e=some u)
    (new:yaZ X.prog X.w (upd H x o) h' x o):Inv X pins σ (upd H x o) { s with heap:=h',toks:=t' }:=I.un (Un.write mu he k heo) (I.hok.write mu he k heo new)
theorem Inv.pins_of (I:Inv X pins σ H s) (h:∀p∈pins',s.heap.get? p.1=some p.2∧H p.1=none∧p.1≠X.env.locals∧p.1∉X.fs∧∀v,p.2.data≠.cell v):Inv X pins' σ H s :=
  ⟨I.ok,I.os,I.bare,I.base,I.loc,I.cell,I.free,I.freeC,fun p hp=>(List.mem_append.mp hp).elim (fun z=>I.pin p (List.mem_append_left _ z)) (h p),I.hok,I.len⟩
theorem yej {N:List Str} (hN:N.Nodup) {i j:Nat} {x:Str} (a:N[i]?=some x) (b:N[j]?=some x):i=j:=by
  obtain ⟨h1,e1⟩:=List.getElem?_eq_some_iff.mp a
  obtain ⟨h2,e2⟩:=List.getElem?_eq_some_iff.mp b
  exact (List.getElem_inj hN).mp (e1.trans e2.symm)
theorem zeQ {E:Value→Shared→Prop} {i:Nat} {Q:Unit→Shared→Prop} (I:Inv X pins σ H s) (hN:X.N.Nodup) (hi:X.N[i]?=some x) (hx:Loc X.env.scope x) (r:RelV v u)
    (h:∀s',Inv X pins (σ.set i (some v)) H s'→(∃a,Heap.SameBut a s.heap s'.heap∧(a=X.env.locals∨X.env.cells.lookup x=some a))→Q () s') (hf:X.fn x=true∨X.env.scope.names.lookup x=some .local:=by first|exact .inl rfl|exact .inr rfl|assumption):wpAny M A (storeName X.env x u) Q E s:=by
  obtain ⟨m,hn,hl⟩:=id I.loc
  have hcls:(X.env.scope.kind==.class||(X.env.scope.kind==.module&&X.env.locals != X.env.globals))=false:=by rw [I.ok.kind];rfl
  have hiσ:i < σ.length:=by rw [I.len];exact (List.getElem?_eq_some_iff.mp hi).1
  have cne:=I.cne
  have tracked:∀ {a:Addr} {h':Heap},(∃o,s.heap.get? a=some o∧H a=none)→Heap.SameBut a s.heap h'→HOk X.prog X.w H h':=fun {a h'} ha hs b ob e=>by
    obtain ⟨_,_,hfree⟩:=ha
    refine (I.hok b ob e).stay (fun c w' hc q=>(hs.2 c ?_).trans q) (fun _ q=>q) fun _ _ q=>q
    rintro rfl
    rcases hc with rfl|hc
    · rw [hfree] at e;cases e
    · rw [hfree] at hc;cases hc
  rcases hx with hk|hk
  · refine wpAny_storeName_local hk hn (fun h' hn' hs=>?_) hcls
    obtain ⟨oL,_,_,hoL,_⟩:=id hn
    refine h _ ⟨I.ok,I.os,I.bare,⟨fun b o e n hb hx=>?_,fun b o e n hb hx=>?_,I.base.free,fun b o e hx=>?_,I.base.tups,I.base.frzs,I.base.tbls⟩,⟨_,hn',fun j y v' e1 e2 e3=>?_⟩,fun y c e=>?_,I.free,I.freeC,fun p hp=>?_,tracked ⟨oL,hoL,I.free⟩ hs,by simpa using I.len⟩ ⟨_,hs,.inl rfl⟩
    · exact (hs.2 b (Nat.ne_of_lt (Nat.lt_of_lt_of_le (Heap.lt_size e) I.ok.above))).trans (I.base.keep b o e n hb hx)
    · obtain ⟨sl,e1⟩:=I.base.slot b o e n hb hx
      exact ⟨sl,(hs.2 b (Nat.ne_of_lt (Nat.lt_of_lt_of_le (Heap.lt_size e) I.ok.above))).trans e1⟩
    · obtain ⟨o',e1⟩:=I.base.there b o e hx
      exact ⟨o',(hs.2 b (Nat.ne_of_lt (Nat.lt_of_lt_of_le (Heap.lt_size e) I.ok.above))).trans e1⟩
    · by_cases hj:j=i
      · subst hj
        rw [hi] at e1;cases e1
        rw [List.getElem?_set_self hiσ] at e2
        cases e2
        exact ⟨u,r,.inl ⟨hk,by simp⟩⟩
      · rw [List.getElem?_set_ne (Ne.symm hj)] at e2
        obtain ⟨u',r',q⟩:=hl j y v' e1 e2 e3
        refine ⟨u',r',?_⟩
        rcases q with ⟨k,e⟩ | ⟨k,c,e,z⟩
        · refine .inl ⟨k,?_⟩
          have:y≠x:=fun e=>hj (yej hN e1 (e ▸ hi))
          simp [this,e]
        · exact .inr ⟨k,c,e,z.sameBut hs (cne y c e)⟩
    · obtain ⟨w',z⟩:=I.cell y c e
      exact ⟨w',z.sameBut hs (cne y c e)⟩
    · obtain ⟨e,n,ne,nf,d⟩:=I.pin p hp
      exact ⟨(hs.2 p.1 ne).trans e,n,ne,nf,d⟩
  · have hfn:X.fn x=true:=by
      rcases hf with z|z
      · exact z
      · rw [z] at hk;cases hk
    obtain ⟨c,hc⟩:=I.ok.has x (.inl hk)
    obtain ⟨w',z⟩:=I.cell x c hc
    refine wpAny_storeName_cell I.ok.kind hk hc z (fun h' hc' hs=>?_)
    obtain ⟨oc,hoc,hocd⟩:=id z
    refine h { s with heap:=h' } ⟨I.ok,I.os,I.bare,⟨fun b o e n hb hx=>?_,fun b o e n hb hx=>?_,I.base.free,fun b o e hx=>?_,I.base.tups,I.base.frzs,I.base.tbls⟩,⟨m,hn.sameBut hs (Ne.symm (cne x c hc)),fun j y v' e1 e2 e3=>?_⟩,fun y c' e=>?_,I.free,I.freeC,fun p hp=>?_,tracked ⟨oc,hoc,I.freeC x c hc⟩ hs,by simpa using I.len⟩ ⟨c,hs,.inr hc⟩
    · exact (hs.2 b (Nat.ne_of_lt (Nat.lt_of_lt_of_le (Heap.lt_size e) (I.ok.cab x c hfn hc)))).trans (I.base.keep b o e n hb hx)
    · obtain ⟨sl,e1⟩:=I.base.slot b o e n hb hx
      exact ⟨sl,(hs.2 b (Nat.ne_of_lt (Nat.lt_of_lt_of_le (Heap.lt_size e) (I.ok.cab x c hfn hc)))).trans e1⟩
    · obtain ⟨o',e1⟩:=I.base.there b o e hx
      exact ⟨o',(hs.2 b (Nat.ne_of_lt (Nat.lt_of_lt_of_le (Heap.lt_size e) (I.ok.cab x c hfn hc)))).trans e1⟩
    · by_cases hj:j=i
      · subst hj
        rw [hi] at e1;cases e1
        rw [List.getElem?_set_self hiσ] at e2
        cases e2
        exact ⟨u,r,.inr ⟨.inl hk,c,hc,hc'⟩⟩
      · rw [List.getElem?_set_ne (Ne.symm hj)] at e2
        obtain ⟨u',r',q⟩:=hl j y v' e1 e2 e3
        refine ⟨u',r',?_⟩
        rcases q with q | ⟨k,c',e,z'⟩
        · exact .inl q
        · refine .inr ⟨k,c',e,z'.sameBut hs ?_⟩
          rintro rfl
          exact hj (yej hN e1 (I.ok.inj _ _ _ e hc ▸ hi))
    · by_cases hcc:c'=c
      · subst hcc;exact ⟨_,hc'⟩
      · obtain ⟨w2,z2⟩:=I.cell y c' e
        exact ⟨w2,z2.sameBut hs hcc⟩
    · obtain ⟨e,n,ne,nf,d⟩:=I.pin p hp
      refine ⟨(hs.2 p.1 ?_).trans e,n,ne,nf,d⟩
      intro q
      rw [q,hoc] at e
      have q':oc=p.2:=Option.some.inj e
      exact d w' (by rw [←q'];exact hocd)
theorem zaT {E:Value→Shared→Prop} {i:Nat} {v:V} {Q:Unit→Shared→Prop} (I:Inv X pins σ H s) (hN:X.N.Nodup) (hi:X.N[i]?=some x) (hx:Loc X.env.scope x) (r:RelV v u)
    (h:∀s',Inv X pins (σ.set i (some v)) H s'→Q () s') (hf:X.fn x=true∨X.env.scope.names.lookup x=some .local:=by first|exact .inl rfl|exact .inr rfl|assumption):wpAny M A (storeName X.env x u) Q E s :=
  zeQ I hN hi hx r (fun s' I' _=>h s' I') hf
theorem Inv.call' (I:Inv X pins σ H s) (ho:s'.os=s.os) (u:Un (frs X.stack) ch H H' s.heap s'.heap) (hok:HOk X.prog X.w H' s'.heap) (hg:AllBare s'.gens)
    (hch:∀b∈ch,(b∈X.ex∨X.s₀.heap.objs.size≤b)∧b≠X.env.locals∧(∀x c,X.env.cells.lookup x=some c→c≠b)∧∀p∈X.pn++pins,p.1≠b):Inv X pins σ H' s':=by
  obtain ⟨h',g',d',t',o'⟩:=s'
  have e:o'=s.os:=ho
  subst e
  exact I.call (g':=g') (t':=t') (d':=d') u hok hg hch
end
abbrev XK:=Value→Option Addr→Hp→Prop
abbrev St:=List (Option V)
abbrev VK:=V→Hp→Prop
abbrev TE:=St→Hp→VK→Prop
abbrev TT:=St→Hp→(Bool→Hp→Prop)→Prop
abbrev TA:=St→Hp→(List V→Hp→Prop)→Prop
structure Ends where
  nx:St→Hp→Prop
  rt:VK
  bk:St→Hp→Prop:=fun _ _=>False
  ct:St→Hp→Prop:=fun _ _=>False
abbrev TS:=Ends→St→Hp→Prop
noncomputable def EP (X:Cx) (pins:List (Addr×Obj)) (σ:St) (Q:VK) (u:Value) (s':Shared):Prop:=Ex2 fun v H'=>Inv X pins σ H' s'∧RelV v u∧Q v H'
def TP (X:Cx) (pins:List (Addr×Obj)) (σ:St) (Q:Bool→Hp→Prop) (b:Bool) (s':Shared):Prop:=∃H',Inv X pins σ H' s'∧Q b H'
noncomputable def AP (X:Cx) (pins:List (Addr×Obj)) (σ:St) (Q:List V→Hp→Prop) (us:List Value) (s':Shared):Prop:=Ex2 fun vs H'=>Inv X pins σ H' s'∧Vals vs us∧Q vs H'
noncomputable def SP (X:Cx) (pins:List (Addr×Obj)) (D:Ends) (f:Flow) (s':Shared):Prop :=
  match f with
  | .next=>Ex2 fun σ' H'=>Inv X pins σ' H' s'∧D.nx σ' H'
  | .brk=>Ex2 fun σ' H'=>Inv X pins σ' H' s'∧D.bk σ' H'
  | .cont=>Ex2 fun σ' H'=>Inv X pins σ' H' s'∧D.ct σ' H'
  | .ret u=>Ex3 fun v σ' H'=>Inv X pins σ' H' s'∧RelV v u∧D.rt v H'
noncomputable def PE (X:Cx) (e:Expr) (t:TE):Prop :=
  ∀(pins:List (Addr×Obj)) (s:Shared) (σ:St) (H:Hp) (Q:VK),Inv X pins σ H s→t σ H Q→wpAny (model X.prog X.w) X.A (eval e X.env) (EP X pins σ Q) X.xe s
noncomputable def PT (X:Cx) (e:Expr) (t:TT):Prop :=
  ∀(pins:List (Addr×Obj)) (s:Shared) (σ:St) (H:Hp) (Q:Bool→Hp→Prop),Inv X pins σ H s→t σ H Q→wpAny (model X.prog X.w) X.A (isTrue e X.env (eval e X.env)) (TP X pins σ Q) X.xe s
noncomputable def PW (X:Cx) (e:Expr) (t:TT):Prop :=
  ∀(whole:Sem Value) (pins:List (Addr×Obj)) (s:Shared) (σ:St) (H:Hp) (Q:Bool→Hp→Prop),Inv X pins σ H s→t σ H Q→wpAny (model X.prog X.w) X.A (isTrue e X.env whole) (TP X pins σ Q) X.xe s
theorem PW.pt {X:Cx} {e:Expr} {t:TT} (h:PW X e t):PT X e t:=h _
noncomputable def PA (X:Cx) (es:List Expr) (t:TA):Prop :=
  ∀(pos:Pos) (pins:List (Addr×Obj)) (s:Shared) (σ:St) (H:Hp) (Q:List V→Hp→Prop),Inv X pins σ H s→t σ H Q→wpAny (model X.prog X.w) X.A (spliced (backTo pos (starEach es X.env))) (AP X pins σ Q) X.xe s
noncomputable def PS (X:Cx) (st:Stmt) (t:TS):Prop :=
  ∀(pins:List (Addr×Obj)) (s:Shared) (σ:St) (H:Hp) (D:Ends),Inv X pins σ H s→t D σ H→wpAny (model X.prog X.w) X.A (exec st X.env) (SP X pins D) X.xe s
noncomputable def PSs (X:Cx) (st:List Stmt) (t:TS):Prop :=
  ∀(pins:List (Addr×Obj)) (s:Shared) (σ:St) (H:Hp) (D:Ends),Inv X pins σ H s→t D σ H→wpAny (model X.prog X.w) X.A (execs st X.env) (SP X pins D) X.xe s
theorem thn {α:Type} {t:Sem α} {Q Q':α→Shared→Prop} {E:Value→Shared→Prop} (h:wpAny M A t Q E s) (hQ:∀a s,Q a s→Q' a s):wpAny M A t Q' E s:=wpAny_mono h hQ fun _ _ x=>x
end L2
namespace L2
open PySem PySem.Spec PyProof.Rows
section
variable {X:Cx}
inductive GVar (i:Nat) (σ:St) (H:Hp) (Q:VK):Prop
  | mk (v:V) (h:σ[i]?=some (some v)) (q:Q v H):GVar i σ H Q
def tVar (i:Nat):TE:=fun σ H Q=>GVar i σ H Q
def tC (v:V):TE:=fun _ H Q=>Q v H
theorem zgI {i:Nat} (hN:X.N[i]?=some x) (hv:Vis X.env.scope x) (hd:(x==("__debug__":Str))=false:=by decide) (hcd:(x==("__classdict__":Str))=false:=by decide):PE X (.Name x pos) (tVar i):=by
  intro pins s σ H Q I h
  obtain ⟨v,e,h⟩:=h
  obtain ⟨m,hn,hl⟩:=I.loc
  obtain ⟨u,r,l⟩:=hl i x v hN e hv
  have fin:EP X pins σ Q u s:=⟨v,H,I,r,h⟩
  rcases l with ⟨hk,hm⟩ | ⟨hk,c,hc,hcell⟩
  · exact wpAny_Name (wpAny_loadName_local I.ok.kind hk hn hm fin) hd
  · rcases hk with hk|hk
    · exact wpAny_Name (wpAny_loadName_cell I.ok.kind hk hc hcell fin) hd
    · exact wpAny_Name (wpAny_loadName_free I.ok.kind hk hc hcell fin hcd) hd
theorem zaa {i j pos}:PE X (.Constant (.int i) j pos) (tC (.int i)):=fun _ _ _ H _ I h=>wpAny_Constant_int ⟨.int i,H,I.tok _,⟨_,rfl⟩,h⟩
theorem yaF {b j pos}:PE X (.Constant (.bool b) j pos) (tC (.bl b)):=fun _ _ _ H _ I h=>Constant_bool ⟨.bl b,H,I,rfl,h⟩
theorem yg4 {j pos}:PE X (.Constant .none j pos) (tC .non):=fun _ _ _ H _ I h=>Constant_none ⟨.non,H,I,rfl,h⟩
theorem zaF {x j pos}:PE X (.Constant (.str x) j pos) (tC (.str x)):=fun _ _ _ H _ I h=>Calls.Constant_str ⟨.str x,H,I.tok _,⟨_,rfl⟩,h⟩
def Gl (X:Cx) (x:Str):Prop:=X.env.kindOf x=some .globalImplicit
theorem yeR {E:Value→Shared→Prop} {Q:Value→Shared→Prop} (I:Inv X pins σ H s) (hg:Gl X x) (hm:X.mg x=some u) (h:Q u s)
    (hd:(x==("__debug__":Str))=false:=by decide):wpAny (model X.prog X.w) X.A (eval (.Name x pos) X.env) Q E s :=
  Calls.Name_function_global I.ok.kind hg (Calls.loadGlobal_global (by rw [I.ok.glob];exact I.mod.glob.keeps I.bk) hm h) hd
theorem zbk {E:Value→Shared→Prop} {u:Value} {Q:Value→Shared→Prop} (I:Inv X pins σ H s) (hg:Gl X x) (hm:X.mg x=none) (hv:bootBuiltins x=some u) (h:Q u s)
    (hn:x≠"__name__":=by decide) (hd:(x==("__debug__":Str))=false:=by decide):wpAny (model X.prog X.w) X.A (eval (.Name x pos) X.env) Q E s:=by
  obtain ⟨mb,h1,h2⟩:=I.mod.blt
  exact Calls.Name_function_global I.ok.kind hg (Calls.loadGlobal_builtin (by rw [I.ok.glob];exact I.mod.glob.keeps I.bk) hm (by rw [I.ok.blt];exact h1.keeps I.bk) ((h2 x hn).trans hv) h) hd
theorem zdM {x:Str} {v:V} {u:Value} {pos:Pos} (hg:Gl X x) (hm:X.mg x=some u) (r:RelV v u) (hd:(x==("__debug__":Str))=false:=by decide):PE X (.Name x pos) (tC v) :=
  fun _ _ _ H _ I h=>yeR I hg hm ⟨v,H,I,r,h⟩ hd
theorem zgc {x:Str} {v:V} {u:Value} {pos:Pos} (hg:Gl X x) (hm:X.mg x=none) (hv:bootBuiltins x=some u) (r:RelV v u) (hn:x≠"__name__":=by decide) (hd:(x==("__debug__":Str))=false:=by decide):PE X (.Name x pos) (tC v) :=
  fun _ _ _ H _ I h=>zbk I hg hm hv ⟨v,H,I,r,h⟩ hn hd
noncomputable def t2I (ta tb:TE) (k:Int→Int→Hp→Prop):St→Hp→Prop:=fun σ H=>ta σ H fun x H1=>tb σ H1 fun y H2=>Ex2 fun i j=>x = .int i∧y = .int j∧k i j H2
variable {a b:Expr} {ta tb:TE} {pos:Pos}
noncomputable def PC (X:Cx) (op:CmpOp) (a b:Expr) (t:TE):Prop :=
  ∀(pins:List (Addr×Obj)) (s:Shared) (σ:St) (H:Hp) (Q:VK),Inv X pins σ H s→t σ H Q→
    wpAny (model X.prog X.w) X.A (eval a X.env) (fun v s₁=>wpAny (model X.prog X.w) X.A (eval b X.env) (fun u s₂=>wpAny (model X.prog X.w) X.A (compareOp op v u) (EP X pins σ Q) X.xe s₂) X.xe s₁) X.xe s
def tCmp (p:Int→Int→Bool) (ta tb:TE):TE:=fun σ H Q=>t2I ta tb (fun i j H2=>Q (.bl (p i j)) H2) σ H
abbrev tLt:TE→TE→TE:=tCmp fun i j=>decide (i<j)
abbrev tLe:TE→TE→TE:=tCmp fun i j=>decide (i≤j)
abbrev tGt:TE→TE→TE:=tCmp fun i j=>decide (j<i)
abbrev tGe:TE→TE→TE:=tCmp fun i j=>decide (j≤i)
abbrev tEqI:TE→TE→TE:=tCmp fun i j=>decide (i=j)
abbrev tNeI:TE→TE→TE:=tCmp fun i j=>!decide (i=j)
def tB (t:TE):TT:=fun σ H Q=>t σ H fun x H1=>∃c,x = .bl c∧Q c H1
theorem pt_cmp {op:CmpOp} (h:PC X op a b t) (h1:behindInMarks op b=false:=by first|exact nobehind _ (by decide) (by decide)|rfl):PT X (.Compare a [op] [b] pos) (tB t):=by
  intro pins s σ H Q I hw
  refine wpAny_isTrue_Compare1 (thn (h pins s σ H _ I hw) fun v s1 h1=>thn h1 fun u s2 h2=>thn h2 fun c s3 ⟨x,H1,I1,r1,q1⟩=>?_) h1
  obtain ⟨d,rfl,q⟩:=q1
  cases r1
  exact wpAny_truthy_bool ⟨H1,I1,q⟩
theorem yar {e:Expr} {t:TE} (h:PE X e t) (he:∀whole,isTrue e X.env whole=(do let v ←whole;standAt e.pos;holding [v] (truthy v)):=by intro _;rfl):PT X e (tB t):=by
  intro pins s σ H Q I hw
  refine isTrue_plain (thn (h pins s σ H _ I hw) fun v s1 ⟨x,H1,I1,r1,q1⟩=>?_) (he _)
  obtain ⟨d,rfl,q⟩:=q1
  cases r1
  exact wpAny_truthy_bool ⟨H1,I1,q⟩
variable {tA tB':TT} {rest:List Expr}
def tAnd (t u:TT):TT:=fun σ H Q=>t σ H fun c H1=>if c=true then u σ H1 Q else Q false H1
def tOr (t u:TT):TT:=fun σ H Q=>t σ H fun c H1=>if c=true then Q true H1 else u σ H1 Q
def tNot (t:TT):TT:=fun σ H Q=>t σ H fun c H1=>Q (!c) H1
theorem ydW (ha:PT X a tA):PW X (.BoolOp .And [a] pos) tA:=by
  intro wh pins s σ H Q I h
  refine isTrue_and (thn (ha pins s σ H Q I h) fun c s1 e=>?_)
  cases c with
  | true=>exact isTrue_and_nil e
  | false=>exact e
theorem yaD (ha:PT X a tA):PW X (.BoolOp .Or [a] pos) tA:=by
  intro wh pins s σ H Q I h
  refine isTrue_or (thn (ha pins s σ H Q I h) fun c s1 e=>?_)
  cases c with
  | false=>exact isTrue_or_nil e
  | true=>exact e
theorem yeb (ha:PT X a tA) (hb:PW X (.BoolOp .And (b::rest) pos) tB'):PW X (.BoolOp .And (a::b::rest) pos) (tAnd tA tB'):=by
  intro wh pins s σ H Q I h
  refine isTrue_and (thn (ha pins s σ H _ I h) fun c s1 hq=>?_)
  obtain ⟨H1,I1,q1⟩:=hq
  cases c with
  | true=>exact hb wh pins s1 σ H1 Q I1 q1
  | false=>exact ⟨H1,I1,q1⟩
theorem yaQ (ha:PT X a tA) (hb:PW X (.BoolOp .Or (b::rest) pos) tB'):PW X (.BoolOp .Or (a::b::rest) pos) (tOr tA tB'):=by
  intro wh pins s σ H Q I h
  refine isTrue_or (thn (ha pins s σ H _ I h) fun c s1 hq=>?_)
  obtain ⟨H1,I1,q1⟩:=hq
  cases c with
  | true=>exact ⟨H1,I1,q1⟩
  | false=>exact hb wh pins s1 σ H1 Q I1 q1
theorem zau (ha:PT X a tA):PT X (.UnaryOp .Not a pos) (tNot tA):=by
  intro pins s σ H Q I h
  exact isTrue_not (ha pins s σ H (fun c H1=>Q (!c) H1) I h)
def yg9 (ta tb:TE):TE:=fun σ H Q=>ta σ H fun x H1=>∃c,x = .bl c∧if c=true then tb σ H1 Q else Q (.bl false) H1
def zhb (ta:TE):TE:=fun σ H Q=>ta σ H fun x H1=>∃c,x = .bl c∧Q (.bl (!c)) H1
theorem zeV {op} {t:TE} (h:PE X a t):PE X (.BoolOp op [a] pos) t:=fun pins s σ H Q I hw=>BoolOp_one (h pins s σ H Q I hw)
theorem yd5 (ha:PE X a ta) (hb:PE X (.BoolOp .And (b::rest) pos) tb):PE X (.BoolOp .And (a::b::rest) pos) (yg9 ta tb):=by
  intro pins s σ H Q I h
  refine BoolOp_and (thn (ha pins s σ H _ I h) fun v s1 hq=>?_)
  obtain ⟨x,H1,I1,r1,q1⟩:=hq
  obtain ⟨c,rfl,q1⟩:=q1
  cases r1
  refine wpAny_truthy_bool ?_
  cases c with
  | true=>exact hb pins s1 σ H1 Q I1 q1
  | false=>exact ⟨.bl false,H1,I1,rfl,q1⟩
theorem yf7 (ha:PE X a ta):PE X (.UnaryOp .Not a pos) (zhb ta):=by
  intro pins s σ H Q I h
  refine UnaryOp_ (thn (ha pins s σ H _ I h) fun v s1 hq=>?_)
  obtain ⟨x,H1,I1,r1,q1⟩:=hq
  obtain ⟨c,rfl,q1⟩:=q1
  cases r1
  exact not_of (wpAny_truthy_bool ⟨.bl (!c),H1,I1,rfl,q1⟩)
end
end L2
namespace L2
open PySem PySem.Spec PyProof.Rows
noncomputable def SqL (K:PySem.W.Frag) (H:Hp) (a:Addr) (xs:List V):Prop :=
  Rd H a (.lst xs)∨
    Ex3 fun (o:Obj) (its:Array Value) (n:Nat)=>K.lookup a=some o∧o.cls = .type "list"∧o.dict=none∧o.data = .seq its n∧its.size≤sizeLine∧Vals xs its.toList
noncomputable def SqT (K:PySem.W.Frag) (H:Hp) (a:Addr) (xs:List V):Prop :=
  Rd H a (.tup xs)∨
    Ex3 fun (o:Obj) (its:Array Value) (n:Nat)=>K.lookup a=some o∧o.cls = .type "tuple"∧o.data = .seq its n∧its.size≤sizeLine∧Vals xs its.toList
noncomputable def absV:Value→Option V
  | .none=>some .non
  | .bool b=>some (.bl b)
  | .int i _=>some (.int i)
  | .str x _=>some (.str x)
  | .bytes b _=>some (.byt b)
  | .float b _=>some (.flt b)
  | .ref a=>some (.ref a)
  | .type n=>some (.ty n)
  | _=>none
theorem RelV.abs (r:RelV x u):absV u=some x:=by
  cases x with
  | non=>cases r;rfl
  | bl _=>cases r;rfl
  | int _=>obtain ⟨t,rfl⟩:=r;rfl
  | str _=>obtain ⟨t,rfl⟩:=r;rfl
  | byt _=>obtain ⟨t,rfl⟩:=r;rfl
  | flt _=>obtain ⟨t,rfl⟩:=r;rfl
  | ref _=>cases r;rfl
  | ty _=>cases r;rfl
theorem RelV.inj (r:RelV x u) (q:RelV y u):x=y:=Option.some.inj (r.abs.symm.trans q.abs)
theorem Vals.inj (h:Vals xs us) (h2:Vals ys us):xs=ys:=by
  induction h generalizing ys with
  | nil=>cases h2;rfl
  | cons r t ih=>cases h2 with|cons r' t'=>rw [r.inj r',ih t']
section
variable {X:Cx} {pins:List (Addr×Obj)} {σ:St} {H:Hp} {s:Shared} {a:Addr} {xs ys:List V}
theorem SqL.of {K:PySem.W.Frag} (h:H a=some (.lst xs)):SqL K H a xs:=.inl (.inl h)
theorem SqT.of {K:PySem.W.Frag} (h:H a=some (.tup xs)):SqT K H a xs:=.inl (.inl h)
theorem Inv.list (I:Inv X pins σ H s) (h:SqL X.K H a xs):∃its:List Value,Vals xs its∧PlainL s.heap a its.toArray∧xs.length≤sizeLine:=by
  rcases h with h | ⟨o,its,n,hk,hc,hd,hs,hz,r⟩
  · obtain ⟨z,its,n,r,e⟩:=h.ok I.hok
    exact ⟨its,r,⟨_,n,e,rfl,rfl,rfl⟩,z⟩
  · refine ⟨its.toList,r,⟨o,n,I.kIn a o hk,hc,hd,by simpa using hs⟩,?_⟩
    have e:=r.length
    simp only [Array.length_toList] at e
    lia
theorem Inv.tuple (I:Inv X pins σ H s) (h:SqT X.K H a xs):∃its:List Value,Vals xs its∧IsTup s.heap a its.toArray∧xs.length≤sizeLine:=by
  rcases h with h | ⟨o,its,n,hk,hc,hs,hz,r⟩
  · obtain ⟨z,its,r,p⟩:=h.ok I.hok
    exact ⟨its,r,p,z⟩
  · refine ⟨its.toList,r,⟨o,I.kIn a o hk,hc,n,by simpa using hs⟩,?_⟩
    have e:=r.length
    simp only [Array.length_toList] at e
    lia
theorem Inv.list_inj (I:Inv X pins σ H s) (h:SqL X.K H a xs) (h':SqL X.K H a ys):xs=ys:=by
  obtain ⟨its,r,⟨o,n,e,_,_,d⟩,_⟩:=I.list h
  obtain ⟨its',r',⟨o',n',e',_,_,d'⟩,_⟩:=I.list h'
  rw [e] at e';cases e'
  rw [d] at d'
  injection d' with d1 _
  have:its=its':=by simpa using congrArg Array.toList d1
  subst this
  exact r.inj r'
theorem Inv.tuple_inj (I:Inv X pins σ H s) (h:SqT X.K H a xs) (h':SqT X.K H a ys):xs=ys:=by
  obtain ⟨its,r,⟨o,e,_,n,d⟩,_⟩:=I.tuple h
  obtain ⟨its',r',⟨o',e',_,n',d'⟩,_⟩:=I.tuple h'
  rw [e] at e';cases e'
  rw [d] at d'
  injection d' with d1 _
  have:its=its':=by simpa using congrArg Array.toList d1
  subst this
  exact r.inj r'
end
abbrev Cx.wish (X:Cx) (E:Value→Shared→Prop):Cx:={ X with xe:=E }
abbrev Cx.nox (X:Cx):Cx:=X.wish fun _ _=>False
theorem Cx.Ok.wish {X:Cx} (ok:X.Ok) (E:Value→Shared→Prop):(X.wish E).Ok :=
  ⟨ok.mod,ok.kind,ok.glob,ok.blt,ok.above,ok.inj,ok.has,ok.cab,ok.hd,ok.frames,ok.stk,ok.exf,ok.bs,ok.bsz,ok.noex,ok.exfs,ok.funs,ok.frf⟩
theorem Cx.Ok.unwish {X:Cx} {E:Value→Shared→Prop} (ok:(X.wish E).Ok):X.Ok :=
  ⟨ok.mod,ok.kind,ok.glob,ok.blt,ok.above,ok.inj,ok.has,ok.cab,ok.hd,ok.frames,ok.stk,ok.exf,ok.bs,ok.bsz,ok.noex,ok.exfs,ok.funs,ok.frf⟩
section
variable {X:Cx} {pins:List (Addr×Obj)} {σ:St} {H:Hp} {s:Shared} {E:Value→Shared→Prop}
theorem Inv.wish (I:Inv X pins σ H s) (E:Value→Shared→Prop):Inv (X.wish E) pins σ H s:=⟨I.ok.wish E,I.os,I.bare,I.base,I.loc,I.cell,I.free,I.freeC,I.pin,I.hok,I.len⟩
theorem Inv.unwish (I:Inv (X.wish E) pins σ H s):Inv X pins σ H s:=⟨I.ok.unwish,I.os,I.bare,I.base,I.loc,I.cell,I.free,I.freeC,I.pin,I.hok,I.len⟩
theorem SP.unwish {f:Flow} (h:SP (X.wish E) pins D f s'):SP X pins D f s':=by
  cases f with
  | next=>obtain ⟨σ',H',I,q⟩:=h;exact ⟨σ',H',I.unwish,q⟩
  | brk=>obtain ⟨σ',H',I,q⟩:=h;exact ⟨σ',H',I.unwish,q⟩
  | cont=>obtain ⟨σ',H',I,q⟩:=h;exact ⟨σ',H',I.unwish,q⟩
  | ret u=>obtain ⟨v,σ',H',I,r,q⟩:=h;exact ⟨v,σ',H',I.unwish,r,q⟩
theorem PSs.nox {st:List Stmt} {t:TS} (h:PSs X.nox st t):PSs X st t:=fun pins s σ H D I hw =>
  wpAny_mono (h pins s σ H D (I.wish _) hw) (fun _ _ q=>q.unwish) fun _ _ z=>False.elim z
end
section
variable {X:Cx} {st:Stmt} {rest:List Stmt} {t u:TS} {e:Expr} {te:TE} {pos:Pos}
def yaS:TS:=fun D σ H=>D.nx σ H
def tSeq (t u:TS):TS:=fun D σ H=>t { D with nx:=u D } σ H
theorem yae:PSs X [] yaS:=fun _ _ σ H _ I h=>wpAny_execs_nil ⟨σ,H,I,h⟩
theorem yfO (h1:PS X st t) (h2:PSs X rest u):PSs X (st::rest) (tSeq t u):=by
  intro pins s σ H D I h
  refine wpAny_execs_cons (thn (h1 pins s σ H { D with nx:=u D } I h) fun f s1 q=>?_)
  cases f with
  | next =>
    obtain ⟨σ',H',I',q⟩:=q
    exact h2 pins s1 σ' H' D I' q
  | ret v=>exact q
  | brk=>exact q
  | cont=>exact q
theorem ygD (h1:PS X st t):PSs X [st] t:=by
  intro pins s σ H D I h
  refine wpAny_execs_cons (thn (h1 pins s σ H D I h) fun f s1 q=>?_)
  cases f with
  | next=>exact wpAny_execs_nil q
  | ret v=>exact q
  | brk=>exact q
  | cont=>exact q
theorem Inv.quiet (I:Inv X pins σ H s):interactive X.env=false:=by simp [interactive,I.ok.kind]
def zhh (te:TE):TS:=fun D σ H=>te σ H fun _ H1=>D.nx σ H1
theorem ybp (he:PE X e te) (hs:swapsWith e none pos.line X.env=pure false:=by rfl):PS X (.Expr e pos) (zhh te):=by
  intro pins s σ H D I h
  exact wpAny_Expr_any (thn (he pins s σ H _ I h) fun v s1 ⟨x,H1,I1,r1,q1⟩=>⟨σ,H1,I1,q1⟩) I.quiet hs
def tRet (te:TE):TS:=fun D σ H=>te σ H D.rt
theorem ygJ (he:PE X e te):PS X (.Return (some e) pos) (tRet te):=by
  intro pins s σ H D I h
  exact wpAny_Return_some (thn (he pins s σ H _ I h) fun v s1 ⟨x,H1,I1,r1,q1⟩=>⟨x,σ,H1,I1,r1,q1⟩)
def tIfS (c:TT) (t u:TS):TS:=fun D σ H=>c σ H fun b H1=>if b=true then t D σ H1 else u D σ H1
theorem yhi {c:Expr} {a b:List Stmt} {tc:TT} (hc:PT X c tc) (ha:PSs X a t) (hb:PSs X b u):PS X (.If c a b pos) (tIfS tc t u):=by
  intro pins s σ H D I h
  refine wpAny_If (thn (hc pins s σ H _ I h) fun d s1 hq=>?_)
  obtain ⟨H1,I1,q1⟩:=hq
  cases d with
  | true=>exact ha pins s1 σ H1 D I1 q1
  | false=>exact hb pins s1 σ H1 D I1 q1
end
abbrev TG:=V→St→Hp→(St→Hp→Prop)→Prop
abbrev TGs:=List V→St→Hp→(St→Hp→Prop)→Prop
noncomputable def PG (X:Cx) (target:Expr) (t:TG):Prop :=
  ∀(pins:List (Addr×Obj)) (s:Shared) (σ:St) (H:Hp) (v:V) (u:Value) (Q:St→Hp→Prop),Inv X pins σ H s→RelV v u→t v σ H Q→
    wpAny (model X.prog X.w) X.A (assign target X.env u) (fun _ s'=>Ex2 fun σ' H'=>Inv X pins σ' H' s'∧Q σ' H') X.xe s
noncomputable def PGs (X:Cx) (ts:List Expr) (t:TGs):Prop :=
  ∀(pins:List (Addr×Obj)) (s:Shared) (σ:St) (H:Hp) (vs:List V) (us:List Value) (Q:St→Hp→Prop),Inv X pins σ H s→Vals vs us→t vs σ H Q→
    wpAny (model X.prog X.w) X.A (assignInOrder ((assignEach ts X.env).map (·.2)) us) (fun _ s'=>Ex2 fun σ' H'=>Inv X pins σ' H' s'∧Q σ' H') X.xe s
abbrev TSet:=V→V→V→Hp→(Hp→Prop)→Prop
noncomputable def PSet (X:Cx) (t:TSet):Prop :=
  ∀(pins:List (Addr×Obj)) (s:Shared) (σ:St) (H:Hp) (o i v:V) (ov iv u:Value) (Q:Hp→Prop),Inv X pins σ H s→RelV o ov→RelV i iv→RelV v u→t o i v H Q→
    wpAny (model X.prog X.w) X.A (setItem ov iv u) (fun _ s'=>∃H',Inv X pins σ H' s'∧Q H') X.xe s
abbrev TIp:=V→V→Hp→VK→Prop
noncomputable def PIp (X:Cx) (op:Operator) (t:TIp):Prop :=
  ∀(pins:List (Addr×Obj)) (s:Shared) (σ:St) (H:Hp) (x y:V) (v u:Value) (Q:VK),Inv X pins σ H s→RelV x v→RelV y u→t x y H Q→
    wpAny (model X.prog X.w) X.A (inplaceOp op v u) (EP X pins σ Q) X.xe s
section
variable {X:Cx} {pos:Pos}
def yat (i:Nat):TG:=fun v σ H Q=>Q (σ.set i (some v)) H
theorem ze3 {i:Nat} {x:Str} (hN:X.N.Nodup) (hi:X.N[i]?=some x) (hx:Loc X.env.scope x) (hf:X.fn x=true∨X.env.scope.names.lookup x=some .local:=by first|exact .inl rfl|exact .inr rfl|assumption):PG X (.Name x pos) (yat i):=by
  intro pins s σ H v u Q I r h
  exact wpAny_assign_Name (zaT I hN hi hx r (fun s' I'=>⟨_,H,I',h⟩) hf)
def gNil:TGs:=fun vs σ H Q=>vs=[]∧Q σ H
inductive ygN (t:TG) (u:TGs) (vs:List V) (σ:St) (H:Hp) (Q:St→Hp→Prop):Prop
  | mk (v:V) (r:List V) (e:vs=v::r) (q:t v σ H fun σ' H'=>u r σ' H' Q):ygN t u vs σ H Q
def yhn (t:TG) (u:TGs):TGs:=fun vs σ H Q=>ygN t u vs σ H Q
theorem yaA:PGs X [] gNil:=by
  intro pins s σ H vs us Q I r h
  obtain ⟨e,h⟩:=h
  subst e
  cases r
  exact assignInOrder_nil ⟨σ,H,I,h⟩
theorem yfP {e:Expr} {es:List Expr} {t:TG} {u:TGs} (h1:PG X e t) (h2:PGs X es u)
    (hs:(assignEach (e::es) X.env).map (·.2)=assign e X.env::(assignEach es X.env).map (·.2):=by rfl):PGs X (e::es) (yhn t u):=by
  intro pins s σ H vs us Q I r h
  obtain ⟨v,vr,e1,h⟩:=h
  subst e1
  cases r with
  | cons r rr =>
    rw [hs]
    refine assignInOrder_cons (thn (h1 pins s σ H _ _ _ I r h) fun _ s1 hq=>?_)
    obtain ⟨σ1,H1,I1,q1⟩:=hq
    exact h2 pins s1 σ1 H1 _ _ Q I1 rr q1
inductive GTup (K:PySem.W.Frag) (n:Nat) (t:TGs) (v:V) (σ:St) (H:Hp) (Q:St→Hp→Prop):Prop
  | mk (a:Addr) (xs:List V) (e:v = .ref a) (h:SqT K H a xs) (l:xs.length=n) (q:t xs σ H Q):GTup K n t v σ H Q
def gTup (K:PySem.W.Frag) (n:Nat) (t:TGs):TG:=fun v σ H Q=>GTup K n t v σ H Q
theorem ydn {es:List Expr} {k:Nat} {t:TGs} {n:Nat} (hc:X.calm=true) (h:PGs X es t)
    (hn:(assignEach es X.env).length=n:=by rfl) (hst:(assignEach es X.env).findIdx? (·.1)=none:=by rfl):PG X (.Tuple es k pos) (gTup X.K n t):=by
  intro pins s σ H v u Q I r hw
  obtain ⟨a,xs,e1,hq,hl,hw⟩:=hw
  subst e1
  cases r
  obtain ⟨its,rv,ht,hz⟩:=I.tuple hq
  refine assign_Tuple_tuple (I.ok.hd hc) ht (by simp [hn,←hl,rv.length]) hst fun h' hx=>?_
  have I1:Inv X pins σ H { s with heap:=h' }:=I.kept (t':=s.toks) fun b o e=>hx b o (Nat.ne_of_lt (Heap.lt_size e)) e
  exact h pins _ σ H xs _ Q I1 (by simpa using rv) hw
def gSub (to ti:TE) (t:TSet):TG:=fun v σ H Q=>to σ H fun o H1=>ti σ H1 fun i H2=>t o i v H2 fun H3=>Q σ H3
theorem yel {o i:Expr} {to ti:TE} {t:TSet} (ho:PE X o to) (hi:PE X i ti) (hs:PSet X t)
    (ha:∀v,assign (.Subscript o i pos) X.env v=(do
      let ov ←holding [v] (eval o X.env)
      let iv ←holding [v,ov] (eval i X.env)
      standAt pos
      holding [v,ov,iv] (setItem ov iv v)
      release [v,ov,iv] []):=by intro _;rfl):PG X (.Subscript o i pos) (gSub to ti t):=by
  intro pins s σ H v u Q I r h
  rw [ha]
  refine wpAny_bind (wpAny_holding (thn (ho pins s σ H _ I h) fun ov s1 hq=>?_))
  obtain ⟨x,H1,I1,r1,q1⟩:=hq
  refine wpAny_bind (wpAny_holding (thn (hi pins s1 σ H1 _ I1 q1) fun iv s2 hq=>?_))
  obtain ⟨y,H2,I2,r2,q2⟩:=hq
  refine wpAny_bind (wpAny_standAt (wpAny_bind (wpAny_holding (thn (hs pins s2 σ H2 x y v ov iv u _ I2 r1 r2 r q2) fun _ s3 hq=>?_))))
  obtain ⟨H3,I3,q3⟩:=hq
  exact wpAny_release ⟨σ,H3,I3,q3⟩
def tAsg (te:TE) (g:TG):TS:=fun D σ H=>te σ H fun x H1=>g x σ H1 D.nx
theorem zdA {tg e:Expr} {te:TE} {g:TG} (he:PE X e te) (hg:PG X tg g) (hs:swapsWithSole [tg] e pos.line X.env=pure false:=by rfl) (hw:swappedStores [tg] e X.env=pure none:=by rfl)
    (h1:(assignEach [tg] X.env).map (·.2)=[assign tg X.env]:=by rfl):PS X (.Assign [tg] e pos) (tAsg te g):=by
  intro pins s σ H D I h
  refine wpAny_Assign_stores (thn (he pins s σ H _ I h) fun v s1 ⟨x,H1,I1,r1,q1⟩=>?_) hs hw
  rw [h1]
  exact thn (hg pins s1 σ H1 x v _ I1 r1 q1) fun _ s2 q=>q
theorem ygW {i:Nat} {x:Str} {e:Expr} {te:TE} {pos':Pos} (hN:X.N.Nodup) (hi:X.N[i]?=some x) (hx:Loc X.env.scope x) (he:PE X e te) (hs:swapsWith e (some (.Name x pos')) pos.line X.env=pure false:=by rfl) (hf:X.fn x=true∨X.env.scope.names.lookup x=some .local:=by first|exact .inl rfl|exact .inr rfl|assumption) :
    PS X (.Assign [.Name x pos'] e pos) (tAsg te (yat i)):=by
  intro pins s σ H D I h
  refine wpAny_Assign_Name (thn (he pins s σ H _ I h) fun v s1 ⟨y,H1,I1,r1,q1⟩=>?_) hs
  exact zaT I1 hN hi hx r1 (fun s2 I2=>⟨_,H1,I2,q1⟩) hf
inductive GPar (i j:Nat) (D:Ends) (vs:List V) (σ:St) (H:Hp):Prop
  | mk (v w:V) (e:vs=[v,w]) (q:D.nx ((σ.set i (some v)).set j (some w)) H):GPar i j D vs σ H
def tPar (i j:Nat) (ta:TA):TS:=fun D σ H=>ta σ H fun vs H1=>GPar i j D vs σ H1
theorem yb3 {i j:Nat} {x y:Str} {a b:Expr} {ta:TA} {px py pt:Pos} {kt k2 pt2} (hc:X.calm=true) (hN:X.N.Nodup) (hi:X.N[i]?=some x) (hj:X.N[j]?=some y) (hij:i≠j)
    (hx:X.env.scope.names.lookup x=some .local) (hy:X.env.scope.names.lookup y=some .local) (ha:PA X [a,b] ta)
    (hw:swappedStores [.Tuple [.Name x px,.Name y py] kt pt] (.Tuple [a,b] k2 pt2) X.env=pure (some [x,y]))
    (hs:swapsWithSole [.Tuple [.Name x px,.Name y py] kt pt] (.Tuple [a,b] k2 pt2) pos.line X.env=pure false:=by rfl) :
    PS X (.Assign [.Tuple [.Name x px,.Name y py] kt pt] (.Tuple [a,b] k2 pt2) pos) (tPar i j ta):=by
  intro pins s σ H D I h
  rw [exec_Assign_arm]
  refine wpAny_bind (wpAny_standAt ?_)
  rw [hs]
  refine wpAny_bind (wpAny_pure ?_)
  rw [if_neg (by decide)]
  refine wpAny_bind (Tuple_ (thn (ha _ pins s σ H _ I h) fun us s1 hq=>?_))
  obtain ⟨vs,H1,I1,r1,q1⟩:=hq
  obtain ⟨v,w,e1,q1⟩:=q1
  subst e1
  obtain ⟨u1,u2,rfl,rv,rw'⟩:Ex2 fun u1 u2=>us=[u1,u2]∧RelV v u1∧RelV w u2:=by
    cases r1 with
    | cons p q =>
      cases q with
      | cons p' q' =>
        cases q'
        exact ⟨_,_,rfl,p,p'⟩
  refine wpAny_newObj_type ?_ (by show 2≤sizeLine;decide)
  have I2:Inv X pins σ H1 { s1 with heap:=s1.heap.push { cls:=.type "tuple",data:=.seq [u1,u2].toArray } }:=I1.kept (t':=s1.toks) fun b o e=>Heap.get?_push_of_some _ e
  rw [hw]
  refine wpAny_bind (wpAny_pure ?_)
  show wpAny (model X.prog X.w) X.A (do rule "assign.swapped-stores";let items ←unpackItems (.ref s1.heap.objs.size) 2 none;assignInOrder [fun v=>bindName X.env y v,fun v=>bindName X.env x v] items.reverse;pure Flow.next) _ _ _
  refine wpAny_bind (wpAny_rule (wpAny_bind (unpackItems_tuple (items:=#[u1,u2]) (I.ok.hd hc) (IsTup.new s1.heap _) fun h' hx'=>?_)))
  have I3:=I2.kept (h':=h') (t':=s1.toks) fun b o e=>hx' b o (Nat.ne_of_lt (Heap.lt_size e)) e
  show wpAny _ _ (assignInOrder [fun v=>bindName X.env y v,fun v=>bindName X.env x v] [u2,u1] >>= fun _=>pure Flow.next) _ _ _
  refine wpAny_bind (assignInOrder_cons (wpAny_bindName (zaT I3 hN hj (.inl hy) rw' (fun s2 I4=>?_) (.inr hy))))
  refine assignInOrder_cons (wpAny_bindName (zaT I4 hN hi (.inl hx) rv (fun s3 I5=>assignInOrder_nil (wpAny_pure ?_)) (.inr hx)))
  rw [List.set_comm _ _ (Ne.symm hij)] at I5
  exact ⟨_,H1,I5,q1⟩
noncomputable def tAug (i:Nat) (te:TE) (ti:TIp):TS:=fun D σ H=>∃x,σ[i]?=some (some x)∧te σ H fun y H1=>ti x y H1 fun z H2=>D.nx (σ.set i (some z)) H2
theorem zbp {i:Nat} {x:Str} {e:Expr} {te:TE} {op:Operator} {ti:TIp} {pos':Pos} (hN:X.N.Nodup) (hi:X.N[i]?=some x) (hx:Loc X.env.scope x) (he:PE X e te) (ho:PIp X op ti) (hf:X.fn x=true∨X.env.scope.names.lookup x=some .local:=by first|exact .inl rfl|exact .inr rfl|assumption) :
    PS X (.AugAssign (.Name x pos') op e pos) (tAug i te ti):=by
  intro pins s σ H D I h
  obtain ⟨v,e1,h⟩:=h
  obtain ⟨m,hn,hl⟩:=I.loc
  have vis:Vis X.env.scope x:=by rcases hx with k|k;exact .inl k;exact .inr (.inl k)
  obtain ⟨u,r,l⟩:=hl i x v hi e1 vis
  refine wpAny_AugAssign_Name ?_
  have go:wpAny (model X.prog X.w) X.A (eval e X.env) (fun w s₂=>wpAny (model X.prog X.w) X.A (inplaceOp op u w) (fun r s₃=>wpAny (model X.prog X.w) X.A (storeName X.env x r) (fun _=>SP X pins D .next) X.xe s₃) X.xe s₂) X.xe s:=by
    refine thn (he pins s σ H _ I h) fun w s1 hq=>?_
    obtain ⟨y,H1,I1,r1,q1⟩:=hq
    refine thn (ho pins s1 σ H1 v y u w _ I1 r r1 q1) fun z s2 hq=>?_
    obtain ⟨zv,H2,I2,r2,q2⟩:=hq
    exact zaT I2 hN hi hx r2 (fun s3 I3=>⟨_,H2,I3,q2⟩) hf
  rcases l with ⟨hk,hm⟩ | ⟨hk,c,hc,hcell⟩
  · exact wpAny_loadName_local I.ok.kind hk hn hm go
  · rcases hk with hk|hk
    · exact wpAny_loadName_cell I.ok.kind hk hc hcell go
    · rcases hx with k|k
      · have:X.env.scope.names.lookup x=some .free:=hk
        rw [k] at this;cases this
      · have:X.env.scope.names.lookup x=some .free:=hk
        rw [k] at this;cases this
end
section
variable {X:Cx} {pos:Pos}
noncomputable def yf1 (c:TT) (tb:TS):TS:=fun D σ H=>∃W:Nat→St→Hp→Prop,(∃m,W m σ H)∧∀m σ H,W m σ H→
  c σ H fun b H1=>if b=true then ∃N:St→Hp→Prop,(∀σ' H',N σ' H'→∃m',m'<m∧W m' σ' H')∧tb { D with nx:=N,ct:=N,bk:=D.nx } σ H1 else D.nx σ H1
theorem zaG {c:Expr} {body:List Stmt} {tc:TT} {tb:TS} (hp:PassesOwn (model X.prog X.w) X.A X.env X.xe) (hc:PT X c tc) (hb:PSs X body tb):PS X (.While c body [] pos) (yf1 tc tb):=by
  intro pins s σ H D I h
  obtain ⟨W,⟨m0,w0⟩,turn⟩:=h
  refine wpAny_While (codeAny_whileLoop (fun n s'=>Ex2 fun σ' H'=>Inv X pins σ' H' s'∧W n σ' H') ?_ m0 ⟨σ,H,I,w0⟩)
  rintro n s1 ⟨σ1,H1,I1,w1⟩
  refine wpAny_passesOwn hp (thn (hc pins s1 σ1 H1 _ I1 (turn n σ1 H1 w1)) fun b s2 hq=>?_)
  obtain ⟨H2,I2,q2⟩:=hq
  cases b with
  | true =>
    obtain ⟨N,hN,q2⟩:=q2
    rw [if_pos rfl]
    refine wpAny_passesOwn hp (thn (hb pins s2 σ1 H2 _ I2 q2) fun f s3 q3=>?_)
    cases f with
    | next =>
      obtain ⟨σ3,H3,I3,n3⟩:=q3
      obtain ⟨m',hm,w3⟩:=hN σ3 H3 n3
      exact ⟨m',hm,σ3,H3,I3,w3⟩
    | cont =>
      obtain ⟨σ3,H3,I3,n3⟩:=q3
      obtain ⟨m',hm,w3⟩:=hN σ3 H3 n3
      exact ⟨m',hm,σ3,H3,I3,w3⟩
    | brk=>exact q3
    | ret v=>exact q3
  | false =>
    rw [if_neg Bool.false_ne_true]
    exact wpAny_execs_nil ⟨σ1,H2,I2,q2⟩
end
structure It where
  go:Nat→Hp→Prop
  yld:Nat→Hp→V→Hp→Prop
  stop:Nat→Hp→Prop
noncomputable def FpOk (X:Cx) (pins:List (Addr×Obj)) (H:Hp) (b:Addr):Prop :=
  H b=none∧b≠X.env.locals∧b∉X.fs∧(b∈X.ex∨X.s₀.heap.objs.size≤b)∧(∀x c,X.env.cells.lookup x=some c→c≠b)∧∀p∈X.pn++pins,p.1≠b
theorem Inv.fpOk (I:Inv X pins σ H s) (hb:s.heap.objs.size≤b) (hn:H' b=none):FpOk X pins H' b:=by
  refine ⟨hn,Nat.ne_of_gt (Nat.lt_of_lt_of_le I.lt hb),I.nofs hb,.inr (Nat.le_trans I.sz hb),fun x c e z=>?_,fun p hp z=>?_⟩
  · obtain ⟨v,q⟩:=I.cell x c e
    exact absurd (Nat.lt_of_lt_of_le q.lt (by rw [z];exact hb)) (Nat.lt_irrefl _)
  · exact absurd (Nat.lt_of_lt_of_le (Heap.lt_size (I.pin p hp).1) (by rw [z];exact hb)) (Nat.lt_irrefl _)
structure Turn (P:Program) (w:World) (K:PySem.W.Frag) (tg:Expr) (J:It) (fp:List Addr) (it:Addr) (tn:Nat→Heap→Prop):Prop where
  mem:it∈fp
  obj:∀i h,tn i h→∀b∈fp,∃o,h.get? b=some o∧∀v,o.data≠.cell v
  keep:∀i h h',tn i h→(∀b∈fp,∀o,h.get? b=some o→h'.get? b=some o)→tn i h'
  item:∀(X:Cx),X.prog=P→X.w=w→X.K=K→X.calm=true→∀(i:Nat) (pins:List (Addr×Obj)) (s:Shared) (σ:St) (H:Hp) (E:Value→Shared→Prop),Inv X pins σ H s→(∀b∈fp,FpOk X pins H b)→tn i s.heap→J.go i H→
    wpAny (model P w) X.A (pyNext (.ref it)) (fun r s1=>∃u,r=some u∧
      wpAny (model P w) X.A (letOwnedTupleGo tg (.ref it) u) (fun _ s2=>Ex2 fun x H'=>Inv X pins σ H' s2∧RelV x u∧J.yld i H x H'∧tn (i+1) s2.heap∧∀b∈fp,H' b=none) E s1) E s
  done:∀(X:Cx),X.prog=P→X.w=w→X.K=K→X.calm=true→∀(i:Nat) (pins:List (Addr×Obj)) (s:Shared) (σ:St) (H:Hp) (E:Value→Shared→Prop),Inv X pins σ H s→(∀b∈fp,FpOk X pins H b)→tn i s.heap→J.stop i H→
    wpAny (model P w) X.A (pyNext (.ref it)) (fun r s1=>r=none∧Inv X pins σ H s1) E s
  self:∀(A:Around) (i:Nat) (s:Shared) (Q:Value→Shared→Prop) (E:Value→Shared→Prop),tn i s.heap→Q (.ref it) s→wpAny (model P w) A (pyIter (.ref it)) Q E s
abbrev TI:=St→Hp→(It→Hp→Prop)→Prop
noncomputable def PIE (X:Cx) (pins:List (Addr×Obj)) (σ:St) (tg:Expr) (R:It→Hp→Prop) (itv:Value) (s2:Shared):Prop :=
  Ex5 fun (it:Addr) (fp:List Addr) (tn:Nat→Heap→Prop) (J:It) (H':Hp)=>itv = .ref it∧Inv X pins σ H' s2∧Turn X.prog X.w X.K tg J fp it tn∧tn 0 s2.heap∧(∀b∈fp,FpOk X pins H' b)∧R J H'
noncomputable def PI (X:Cx) (tg iter:Expr) (wi:TI):Prop :=
  ∀(pins:List (Addr×Obj)) (s:Shared) (σ:St) (H:Hp) (R:It→Hp→Prop),Inv X pins σ H s→wi σ H R→
    wpAny (model X.prog X.w) X.A (eval iter X.env) (fun v s1=>wpAny (model X.prog X.w) X.A (pyIter v) (PIE X pins σ tg R) X.xe s1) X.xe s
theorem zfJ {E:Value→Shared→Prop} {s:Shared} {n:String} {Q:Unit→Shared→Prop} (ho:s.heap.get? it=some o) (hc:o.cls = .type n) (hd:o.data = .fields vs)
    (hn:["enumerate","zip","dict_itemiterator","dict_reverseitemiterator","odict_iterator","itertools.zip_longest","itertools.pairwise"].contains n=false) (hQ:Q () s):wpAny M A (letOwnedTupleGo tg (.ref it) u) Q E s:=by
  unfold letOwnedTupleGo
  cases tg <;> first
    | exact wpAny_pure hQ
    | (cases u <;> first
        | exact wpAny_pure hQ
        | (refine wpAny_bind (wpAny_load ho ?_)
           rw [hc,hd]
           show wpAny M A (if (["enumerate","zip","dict_itemiterator","dict_reverseitemiterator","odict_iterator","itertools.zip_longest","itertools.pairwise"].contains n&&vs[0]?==some (rawInt _))=true then _ else _) Q E s
           rw [if_neg (by intro h;rw [hn,Bool.false_and] at h;cases h)]
           exact wpAny_pure hQ))
noncomputable def Itl (K:PySem.W.Frag) (a:Addr):It :=
  ⟨fun i H=>Ex2 fun xs x=>SqL K H a xs∧xs[i]?=some x,fun i H x H'=>H'=H∧∀xs,SqL K H a xs→xs[i]?=some x,fun i H=>∃xs,SqL K H a xs∧xs.length≤i⟩
noncomputable def Itt (K:PySem.W.Frag) (a:Addr):It :=
  ⟨fun i H=>Ex2 fun xs x=>SqT K H a xs∧xs[i]?=some x,fun i H x H'=>H'=H∧∀xs,SqT K H a xs→xs[i]?=some x,fun i H=>∃xs,SqT K H a xs∧xs.length≤i⟩
def Itr (lo:Int) (n:Nat):It:=⟨fun i _=>i<n,fun i H x H'=>H'=H∧x = .int (lo+i),fun i _=>n≤i⟩
theorem zeX {P:Program} {w:World} {K:PySem.W.Frag} {tg:Expr} (a it:Addr):Turn P w K tg (Itl K a) [it] it (fun i h=>h.IsListIter it a i) where
  mem:=by simp
  obj:=fun i h st b hb=>by
    have e:b=it:=by simpa using hb
    subst e
    obtain ⟨o,e,c,d⟩:=st
    exact ⟨o,e,fun v z=>by rw [d] at z;cases z⟩
  keep:=fun i h h' st k=>st.at fun o e=>k it (by simp) o e
  item:=by
    intro X hP hw hK hc i pins s σ H E I hf st hg
    subst hP hw hK
    obtain ⟨xs,x,hq,hx⟩:=hg
    obtain ⟨its,rv,p,hz⟩:=I.list hq
    obtain ⟨u,hu,ru⟩:=rv.get hx
    obtain ⟨f0,f1,f2,f3,f4,f5⟩:=hf it (by simp)
    refine wpAny_pyNext_list_item st p.isList (x:=u) (by simpa using hu) fun h' st' sb=>?_
    have I1:Inv X pins σ H { s with heap:=h' }:=I.turned (t':=s.toks) (fun b o hb e=>(sb.2 b hb).trans e) f0 f1 f3 f4 f5
    obtain ⟨o,e,c,d⟩:=id st'
    exact ⟨u,rfl,zfJ (s:={ s with heap:=h' }) e c d (by decide) ⟨x,H,I1,ru,⟨rfl,fun ys hy=>by rw [I.list_inj hy hq];exact hx⟩,st',fun b hb=>(hf b hb).1⟩⟩
  done:=by
    intro X hP hw hK hc i pins s σ H E I hf st hg
    subst hP hw hK
    obtain ⟨xs,hq,hx⟩:=hg
    obtain ⟨its,rv,p,hz⟩:=I.list hq
    obtain ⟨f0,f1,f2,f3,f4,f5⟩:=hf it (by simp)
    have hl:=rv.length
    exact wpAny_pyNext_list_end (I.ok.hd hc) st p.isList (by simp;lia) fun h' eb=>⟨rfl,I.turned (t':=s.toks) (fun b o hb e=>eb b o hb e) f0 f1 f3 f4 f5⟩
  self:=fun _ _ _ _ _ st h=>wpAny_pyIter_listiter st h
theorem zez {P:Program} {w:World} {K:PySem.W.Frag} {tg:Expr} (a it:Addr):Turn P w K tg (Itt K a) [it] it (fun i h=>h.IsTupleIter it a i) where
  mem:=by simp
  obj:=fun i h st b hb=>by
    have e:b=it:=by simpa using hb
    subst e
    obtain ⟨o,e,c,d⟩:=st
    exact ⟨o,e,fun v z=>by rw [d] at z;cases z⟩
  keep:=fun i h h' st k=>st.at fun o e=>k it (by simp) o e
  item:=by
    intro X hP hw hK hc i pins s σ H E I hf st hg
    subst hP hw hK
    obtain ⟨xs,x,hq,hx⟩:=hg
    obtain ⟨its,rv,p,hz⟩:=I.tuple hq
    obtain ⟨u,hu,ru⟩:=rv.get hx
    obtain ⟨f0,f1,f2,f3,f4,f5⟩:=hf it (by simp)
    refine wpAny_pyNext_tuple_item st (show s.heap.IsTuple a its.toArray from p) (x:=u) (by simpa using hu) fun h' st' sb=>?_
    have I1:Inv X pins σ H { s with heap:=h' }:=I.turned (t':=s.toks) (fun b o hb e=>(sb.2 b hb).trans e) f0 f1 f3 f4 f5
    obtain ⟨o,e,c,d⟩:=id st'
    exact ⟨u,rfl,zfJ (s:={ s with heap:=h' }) e c d (by decide) ⟨x,H,I1,ru,⟨rfl,fun ys hy=>by rw [I.tuple_inj hy hq];exact hx⟩,st',fun b hb=>(hf b hb).1⟩⟩
  done:=by
    intro X hP hw hK hc i pins s σ H E I hf st hg
    subst hP hw hK
    obtain ⟨xs,hq,hx⟩:=hg
    obtain ⟨its,rv,p,hz⟩:=I.tuple hq
    obtain ⟨f0,f1,f2,f3,f4,f5⟩:=hf it (by simp)
    have hl:=rv.length
    exact wpAny_pyNext_tuple_end (I.ok.hd hc) st (show s.heap.IsTuple a its.toArray from p) (by simp;lia) fun h' eb=>⟨rfl,I.turned (t':=s.toks) (fun b o hb e=>eb b o hb e) f0 f1 f3 f4 f5⟩
  self:=fun _ _ _ _ _ st h=>wpAny_pyIter_tupleiter st h
theorem yeo {P:Program} {w:World} {K:PySem.W.Frag} {tg:Expr} (it:Addr) (lo:Int) (n:Nat):Turn P w K tg (Itr lo n) [it] it (fun i h=>IsRangeIter h it (lo+(i:Nat)*1) ((n:Int)-(i:Nat)) 1) where
  mem:=by simp
  obj:=fun i h st b hb=>by
    have e:b=it:=by simpa using hb
    subst e
    exact ⟨_,st,fun v z=>by
      have z':Data.fields _=Data.cell v:=z
      cases z'⟩
  keep:=fun i h h' st k=>k it (by simp) _ st
  item:=by
    intro X hP hw hK hc i pins s σ H E I hf st hg
    subst hP hw hK
    obtain ⟨f0,f1,f2,f3,f4,f5⟩:=hf it (by simp)
    have W:=Walks.range (prog:=X.prog) (w:=X.w) (I.ok.hd hc) it lo 1 n
    refine W.item i s _ _ hg st fun v h' tk hv st' kk=>?_
    obtain ⟨t,rfl⟩:=hv
    have I1:Inv X pins σ H { s with heap:=h',toks:=tk }:=I.turned (fun b o hb e=>kk b o (by simpa using hb) e) f0 f1 f3 f4 f5
    refine ⟨_,rfl,zfJ (s:={ s with heap:=h',toks:=tk }) (n:="range_iterator") st' rfl rfl (by decide) ⟨.int (lo+i),H,I1,⟨t,?_⟩,⟨rfl,rfl⟩,st',fun b hb=>(hf b hb).1⟩⟩
    rw [Int.mul_one]
  done:=by
    intro X hP hw hK hc i pins s σ H E I hf st hg
    subst hP hw hK
    obtain ⟨f0,f1,f2,f3,f4,f5⟩:=hf it (by simp)
    exact wpAny_pyNext_range_end (I.ok.hd hc) st (by have:n≤i:=hg;lia) fun h' eb=>⟨rfl,I.turned (t':=s.toks) (fun b o hb e=>eb b o hb e) f0 f1 f3 f4 f5⟩
  self:=fun _ _ _ _ _ st h=>wpAny_pyIter_rangeiter st h
end L2
namespace L2
open PySem PySem.Spec PyProof.Rows
section
variable {X:Cx} {tg:Expr}
inductive GItl (K:PySem.W.Frag) (x:V) (H:Hp) (R:It→Hp→Prop):Prop
  | mk (a:Addr) (e:x = .ref a) (h:∃xs,SqL K H a xs) (q:R (Itl K a) H):GItl K x H R
inductive GItt (K:PySem.W.Frag) (x:V) (H:Hp) (R:It→Hp→Prop):Prop
  | mk (a:Addr) (e:x = .ref a) (h:∃xs,SqT K H a xs) (q:R (Itt K a) H):GItt K x H R
def yhm (K:PySem.W.Frag) (tl:TE):TI:=fun σ H R=>tl σ H fun x H1=>GItl K x H1 R
def iTup (K:PySem.W.Frag) (tl:TE):TI:=fun σ H R=>tl σ H fun x H1=>GItt K x H1 R
theorem yb2 {l:Expr} {tl:TE} (hl:PE X l tl):PI X tg l (yhm X.K tl):=by
  intro pins s σ H R I h
  refine thn (hl pins s σ H _ I h) fun v s1 hq=>?_
  obtain ⟨x,H1,I1,r1,q1⟩:=hq
  obtain ⟨a,e,⟨xs,hq⟩,q⟩:=q1
  subst e
  cases r1
  obtain ⟨its,rv,p,hz⟩:=I1.list hq
  refine wpAny_pyIter_list p.isList ?_
  refine ⟨s1.heap.objs.size,[s1.heap.objs.size],_,_,H1,rfl,I1.kept (t':=s1.toks) fun b o e=>Heap.get?_push_of_some _ e,zeX a _,⟨_,Heap.get?_push_size _ rfl,rfl,rfl⟩,fun b hb=>?_,q⟩
  have e:b=s1.heap.objs.size:=by simpa using hb
  subst e
  exact I1.fpOk (Nat.le_refl _) (I1.hok.fresh (Nat.le_refl _))
theorem zcP {l:Expr} {tl:TE} (hl:PE X l tl):PI X tg l (iTup X.K tl):=by
  intro pins s σ H R I h
  refine thn (hl pins s σ H _ I h) fun v s1 hq=>?_
  obtain ⟨x,H1,I1,r1,q1⟩:=hq
  obtain ⟨a,e,⟨xs,hq⟩,q⟩:=q1
  subst e
  cases r1
  obtain ⟨its,rv,p,hz⟩:=I1.tuple hq
  refine wpAny_pyIter_tuple (show s1.heap.IsTuple a its.toArray from p) ?_
  refine ⟨s1.heap.objs.size,[s1.heap.objs.size],_,_,H1,rfl,I1.kept (t':=s1.toks) fun b o e=>Heap.get?_push_of_some _ e,zez a _,⟨_,Heap.get?_push_size _ rfl,rfl,rfl⟩,fun b hb=>?_,q⟩
  have e:b=s1.heap.objs.size:=by simpa using hb
  subst e
  exact I1.fpOk (Nat.le_refl _) (I1.hok.fresh (Nat.le_refl _))
theorem zd5 {R:It→Hp→Prop} {E:Value→Shared→Prop} {lo hi:Int} {tk:Nat} (I:Inv X pins σ H s) (h1 : -(2^62)≤lo) (h2:lo<2^62) (h3 : -(2^62)≤hi) (h4:hi<2^62)
    (q:R (Itr lo (hi-lo).toNat) H):wpAny (model X.prog X.w) X.A (pyIter (.ref s.heap.objs.size)) (PIE X pins σ tg R) E { s with heap:=s.heap.push { cls:=.type "range",data:=.fields #[.int lo t,.int hi u,.int 1 v] },toks:=tk }:=by
  refine wpAny_pyIter_range (IsRange.new ..) (small_one h1 h2 h3 h4) ?_
  have I1:Inv X pins σ H { s with heap:=s.heap.push { cls:=.type "range",data:=.fields #[.int lo t,.int hi u,.int 1 v] },toks:=tk }:=I.kept fun b o e=>Heap.get?_push_of_some _ e
  refine ⟨(s.heap.push { cls:=.type "range",data:=.fields #[.int lo t,.int hi u,.int 1 v] }).objs.size,[(s.heap.push { cls:=.type "range",data:=.fields #[.int lo t,.int hi u,.int 1 v] }).objs.size],_,_,H,rfl,
    I1.kept (t':=tk) fun b o e=>Heap.get?_push_of_some _ e,yeo _ lo (hi-lo).toNat,?_,fun b hb=>?_,q⟩
  · have e1:lo+((0:Nat):Int)*1=lo:=by simp
    have e2:(((hi-lo).toNat:Nat):Int)-((0:Nat):Int)=Builtin.Range.rangeSize lo hi 1:=by rw [rangeSize_one];split <;> lia
    show IsRangeIter _ _ (lo+((0:Nat):Int)*1) ((((hi-lo).toNat:Nat):Int)-((0:Nat):Int)) 1
    rw [e1,e2]
    exact Heap.get?_push_size _ rfl
  · have e:b=(s.heap.push { cls:=.type "range",data:=.fields #[.int lo t,.int hi u,.int 1 v] }).objs.size:=by simpa using hb
    subst e
    exact I1.fpOk (Nat.le_refl _) (I1.hok.fresh (Nat.le_refl _))
inductive GRng (vs:List V) (H:Hp) (R:It→Hp→Prop):Prop
  | mk (j:Int) (e:vs=[.int j]) (a : -(2^62)≤j) (b:j<2^62) (q:R (Itr 0 j.toNat) H):GRng vs H R
def yhk (ta:TA):TI:=fun σ H R=>ta σ H fun vs H1=>GRng vs H1 R
noncomputable def yhh (ta:TA):TI:=fun σ H R=>ta σ H fun vs H1=>Ex2 fun (i j:Int)=>vs=[.int i,.int j]∧(-(2^62)≤i∧i<2^62∧-(2^62)≤j∧j<2^62)∧R (Itr i (j-i).toNat) H1
theorem yeS {a:Expr} {ta:TA} {p pos:Pos} (hg:Gl X "range") (hm:X.mg "range"=none) (ha:PA X [a] ta) (hs:starEach [a] X.env=[(false,eval a X.env)]:=by rfl):PI X tg (.Call (.Name "range" p) [a] [] pos) (yhk ta):=by
  intro pins s σ H R I h
  refine Call_ (zbk I hg hm boot_range (PyProof.Rows.callWith_type1 (thn (ha pos pins s σ H _ I h) fun us s1 ⟨vs,H1,I1,r1,q1⟩=>?_) hs rfl))
  obtain ⟨j,e,q1,q2,q⟩:=q1
  subst e
  cases r1 with
  | cons r rr =>
    cases rr
    obtain ⟨t,rfl⟩:=r
    exact call_range_1 (zd5 I1 (by lia) (by lia) q1 q2 (by simpa using q))
theorem zaV {a b:Expr} {ta:TA} {p pos:Pos} (hg:Gl X "range") (hm:X.mg "range"=none) (ha:PA X [a,b] ta) (hs:starEach [a,b] X.env=[(false,eval a X.env),(false,eval b X.env)]:=by rfl) (hs2:starEach [b] X.env=[(false,eval b X.env)]:=by rfl) :
    PI X tg (.Call (.Name "range" p) [a,b] [] pos) (yhh ta):=by
  intro pins s σ H R I h
  refine Call_ (zbk I hg hm boot_range (PyProof.Rows.callWith_type1 (thn (ha pos pins s σ H _ I h) fun us s1 ⟨vs,H1,I1,r1,q1⟩=>?_) (by rw [hs,hs2]) (by rw [hs2];rfl)))
  obtain ⟨i,j,e,⟨q1,q2,q3,q4⟩,q⟩:=q1
  subst e
  cases r1 with
  | cons r rr =>
    cases rr with
    | cons r' rr =>
      cases rr
      obtain ⟨t,rfl⟩:=r
      obtain ⟨t',rfl⟩:=r'
      exact call_range_2 (zd5 I1 q1 q2 q3 q4 q)
noncomputable def tFor (wi:TI) (g:TG) (tb:TS):TS:=fun D σ H=>wi σ H fun J H1=>∃W:Nat→Nat→St→Hp→Prop,(∃m,W 0 m σ H1)∧∀i m σ H,W i m σ H→
  (J.stop i H∧D.nx σ H)∨(J.go i H∧∃N:St→Hp→Prop,(∀σ' H',N σ' H'→∃m',m'<m∧W (i+1) m' σ' H')∧∀x H',J.yld i H x H'→g x σ H' fun σ2 H2=>tb { D with nx:=N,ct:=N,bk:=D.nx } σ2 H2)
def ydF (fp:List Addr) (h:Heap):List (Addr×Obj):=fp.filterMap fun b=>(h.get? b).map fun o=>(b,o)
theorem zbA (hb:b∈fp) (e:h.get? b=some o):(b,o)∈ydF fp h:=List.mem_filterMap.mpr ⟨b,hb,by rw [e];rfl⟩
theorem zeK {p:Addr×Obj} (hp:p∈ydF fp h):p.1∈fp∧h.get? p.1=some p.2:=by
  obtain ⟨b,hb,e⟩:=List.mem_filterMap.mp hp
  cases q:h.get? b with
  | none=>rw [q] at e;cases e
  | some o =>
    rw [q] at e
    have e':(b,o)=p:=Option.some.inj e
    subst e'
    exact ⟨hb,q⟩
theorem Inv.pinned (I:Inv X pins σ H s) (hf:∀b∈fp,FpOk X pins H b) (ho:∀b∈fp,∃o,s.heap.get? b=some o∧∀v,o.data≠.cell v):Inv X (pins++ydF fp s.heap) σ H s :=
  I.pins_of fun p hp=>(List.mem_append.mp hp).elim (fun z=>I.pin p (List.mem_append_right _ z)) fun z=>by
    obtain ⟨hb,e⟩:=zeK z
    obtain ⟨f0,f1,f2,_⟩:=hf p.1 hb
    obtain ⟨o,e',d⟩:=ho p.1 hb
    rw [e] at e';cases e'
    exact ⟨e,f0,f1,f2,d⟩
theorem Inv.unpinned (I:Inv X (pins++pl) σ H s):Inv X pins σ H s:=I.pins_of fun p hp=>I.pin p (List.mem_append_right _ (List.mem_append_left _ hp))
theorem zgM {iter:Expr} {body:List Stmt} {wi:TI} {g:TG} {tb:TS} {pos:Pos} (hp:PassesOwn (model X.prog X.w) X.A X.env X.xe) (hc:X.calm=true) (hi:PI X tg iter wi) (hg:PG X tg g) (hb:PSs X body tb)
    (hs:∀x,foldedSetIterable iter X.env x=pure x:=by intro _;rfl):PS X (.For tg iter body [] pos) (tFor wi g tb):=by
  intro pins s σ H D I h
  refine wpAny_For (thn (hi pins s σ H _ I h) fun v s1 h1=>thn h1 fun itv s2 h2=>?_) hs
  obtain ⟨it,fp,tn,J,H2,e,I2,T,st2,f2,W,⟨m0,w0⟩,turn⟩:=h2
  subst e
  have stat:∀ {H':Hp},(∀b∈fp,H' b=none)→∀b∈fp,FpOk X pins H' b:=fun hn b hb=>⟨hn b hb,(f2 b hb).2⟩
  refine codeAny_forLoop_any (fun n s'=>Ex3 fun i σ' H'=>Inv X pins σ' H' s'∧tn i s'.heap∧(∀b∈fp,H' b=none)∧W i n σ' H') ?_ m0 ⟨0,σ,H2,I2,st2,fun b hb=>(f2 b hb).1,w0⟩
  rintro n s3 ⟨i,σ3,H3,I3,st3,fr3,w3⟩
  rcases turn i n σ3 H3 w3 with ⟨stop,qn⟩ | ⟨go,N,hN,step⟩
  · refine wpAny_passesOwn hp (thn (T.done X rfl rfl rfl hc i pins s3 σ3 H3 X.xe I3 (stat fr3) st3 stop) fun r s4 hq=>?_)
    obtain ⟨hr,I4⟩:=hq
    subst hr
    exact wpAny_execs_nil ⟨σ3,H3,I4,qn⟩
  · refine wpAny_passesOwn hp (thn (T.item X rfl rfl rfl hc i pins s3 σ3 H3 X.xe I3 (stat fr3) st3 go) fun r s4 hq=>?_)
    obtain ⟨u,hr,h4⟩:=hq
    subst hr
    refine wpAny_passesOwn hp (thn h4 fun _ s5 hq=>?_)
    obtain ⟨x,H5,I5,r5,y5,st5,fr5⟩:=hq
    have I5':=I5.pinned (stat fr5) (T.obj _ _ st5)
    refine wpAny_passesOwn hp (thn (hg _ s5 σ3 H5 x u _ I5' r5 (step x H5 y5)) fun _ s6 hq=>?_)
    obtain ⟨σ6,H6,I6,q6⟩:=hq
    refine wpAny_passesOwn hp (thn (hb _ s6 σ6 H6 _ I6 q6) fun f s7 q7=>?_)
    have again:∀ {σ7:St} {H7:Hp},Inv X (pins++ydF fp s5.heap) σ7 H7 s7→N σ7 H7→∃m,m<n∧Ex3 fun i σ' H'=>Inv X pins σ' H' s7∧tn i s7.heap∧(∀b∈fp,H' b=none)∧W i m σ' H':=fun {σ7 H7} I7 n7=>by
      obtain ⟨m',hm,w7⟩:=hN σ7 H7 n7
      refine ⟨m',hm,i+1,σ7,H7,I7.unpinned,T.keep _ _ _ st5 fun b hb o e=>(I7.pin (b,o) (List.mem_append_right _ (List.mem_append_right _ (zbA hb e)))).1,fun b hb=>?_,w7⟩
      obtain ⟨o,e,d⟩:=T.obj _ _ st5 b hb
      exact (I7.pin (b,o) (List.mem_append_right _ (List.mem_append_right _ (zbA hb e)))).2.1
    cases f with
    | next=>obtain ⟨σ7,H7,I7,n7⟩:=q7;exact again I7 n7
    | cont=>obtain ⟨σ7,H7,I7,n7⟩:=q7;exact again I7 n7
    | brk=>obtain ⟨σ7,H7,I7,q7⟩:=q7;exact ⟨σ7,H7,I7.unpinned,q7⟩
    | ret v=>obtain ⟨x7,σ7,H7,I7,r7,q7⟩:=q7;exact ⟨x7,σ7,H7,I7.unpinned,r7,q7⟩
end
theorem yem {K:PySem.W.Frag} {a:Addr} {xs:List V} {g:TG} {tb:TS} {D:Ends} {σ:St} {H:Hp} (Pv:Nat→St→Hp→Prop) (h0:Pv 0 σ H) (hl:∀i σ H,i≤xs.length→Pv i σ H→SqL K H a xs)
    (hs:∀i x σ H,xs[i]?=some x→Pv i σ H→g x σ H fun σ2 H2=>tb { D with nx:=Pv (i+1),ct:=Pv (i+1),bk:=D.nx } σ2 H2) (hd:∀σ H,Pv xs.length σ H→D.nx σ H) :
    ∃W:Nat→Nat→St→Hp→Prop,(∃m,W 0 m σ H)∧∀i m σ H,W i m σ H→
      ((Itl K a).stop i H∧D.nx σ H)∨((Itl K a).go i H∧∃N:St→Hp→Prop,(∀σ' H',N σ' H'→∃m',m'<m∧W (i+1) m' σ' H')∧∀x H',(Itl K a).yld i H x H'→g x σ H' fun σ2 H2=>tb { D with nx:=N,ct:=N,bk:=D.nx } σ2 H2):=by
  refine ⟨fun i m σ H=>m=xs.length-i∧i≤xs.length∧Pv i σ H,⟨xs.length,by simp,Nat.zero_le _,h0⟩,?_⟩
  rintro i m σ H ⟨rfl,hi,p⟩
  have q:=hl i σ H hi p
  by_cases hlt:i<xs.length
  · refine .inr ⟨⟨xs,xs[i],q,by simp [hlt]⟩,Pv (i+1),fun σ' H' p'=>⟨xs.length-(i+1),by lia,rfl,hlt,p'⟩,fun x H' y=>?_⟩
    obtain ⟨e,y⟩:=y
    subst e
    exact hs i x σ _ (y xs q) p
  · have e:i=xs.length:=by lia
    subst e
    exact .inl ⟨⟨xs,q,Nat.le_refl _⟩,hd σ H p⟩
theorem yaB {lo:Int} {n:Nat} {g:TG} {tb:TS} {D:Ends} {σ:St} {H:Hp} (Pv:Nat→St→Hp→Prop) (h0:Pv 0 σ H)
    (hs:∀i σ H,i<n→Pv i σ H→g (.int (lo+i)) σ H fun σ2 H2=>tb { D with nx:=Pv (i+1),ct:=Pv (i+1),bk:=D.nx } σ2 H2) (hd:∀σ H,Pv n σ H→D.nx σ H) :
    ∃W:Nat→Nat→St→Hp→Prop,(∃m,W 0 m σ H)∧∀i m σ H,W i m σ H→
      ((Itr lo n).stop i H∧D.nx σ H)∨((Itr lo n).go i H∧∃N:St→Hp→Prop,(∀σ' H',N σ' H'→∃m',m'<m∧W (i+1) m' σ' H')∧∀x H',(Itr lo n).yld i H x H'→g x σ H' fun σ2 H2=>tb { D with nx:=N,ct:=N,bk:=D.nx } σ2 H2):=by
  refine ⟨fun i m σ H=>m=n-i∧i≤n∧Pv i σ H,⟨n,by simp,Nat.zero_le _,h0⟩,?_⟩
  rintro i m σ H ⟨rfl,hi,p⟩
  by_cases hlt:i<n
  · refine .inr ⟨hlt,Pv (i+1),fun σ' H' p'=>⟨n-(i+1),by lia,rfl,hlt,p'⟩,fun x H' y=>?_⟩
    obtain ⟨e,y⟩:=y
    subst e y
    exact hs i σ _ hlt p
  · have e:i=n:=by lia
    subst e
    exact .inl ⟨Nat.le_refl _,hd σ H p⟩
end L2
namespace L2
open PySem PySem.Spec PyProof.Rows
abbrev R2:=V→V→Hp→VK→Prop
noncomputable def OpR (X:Cx) (f:Value→Value→Sem Value) (r:R2):Prop :=
  ∀(pins:List (Addr×Obj)) (s:Shared) (σ:St) (H:Hp) (x y:V) (v u:Value) (Q:VK),Inv X pins σ H s→RelV x v→RelV y u→r x y H Q→
    wpAny (model X.prog X.w) X.A (f v u) (EP X pins σ Q) X.xe s
noncomputable def UnR (X:Cx) (f:Value→Sem Value) (r:V→Hp→VK→Prop):Prop :=
  ∀(pins:List (Addr×Obj)) (s:Shared) (σ:St) (H:Hp) (x:V) (v:Value) (Q:VK),Inv X pins σ H s→RelV x v→r x H Q→
    wpAny (model X.prog X.w) X.A (f v) (EP X pins σ Q) X.xe s
noncomputable def zaY (X:Cx) (f:Value) (r:List V→Hp→VK→Prop):Prop :=
  ∀(pins:List (Addr×Obj)) (s:Shared) (σ:St) (H:Hp) (xs:List V) (us:List Value) (Q:VK),Inv X pins σ H s→Vals xs us→r xs H Q→
    wpAny (model X.prog X.w) X.A (call f us) (EP X pins σ Q) X.xe s
def tOp (r:R2) (ta tb:TE):TE:=fun σ H Q=>ta σ H fun x H1=>tb σ H1 fun y H2=>r x y H2 Q
def tUn (r:V→Hp→VK→Prop) (ta:TE):TE:=fun σ H Q=>ta σ H fun x H1=>r x H1 Q
inductive GI (C:Int→Int→Prop) (g:Int→Int→V) (x y:V) (H:Hp) (Q:VK):Prop
  | mk (i j:Int) (a:x = .int i) (b:y = .int j) (q:C i j∧Q (g i j) H):GI C g x y H Q
def rI (C:Int→Int→Prop) (g:Int→Int→V):R2:=fun x y H Q=>GI C g x y H Q
inductive GI0 (g:Int→Int→V) (x y:V) (H:Hp) (Q:VK):Prop
  | mk (i j:Int) (a:x = .int i) (b:y = .int j) (q:Q (g i j) H):GI0 g x y H Q
def rI0 (g:Int→Int→V):R2:=fun x y H Q=>GI0 g x y H Q
def rU (g:Int→V):V→Hp→VK→Prop:=fun x H Q=>∃i,x = .int i∧Q (g i) H
section
variable {X:Cx} {a b c:Expr} {ta tb tc:TE} {pos:Pos}
theorem binT (ha:PE X a ta) (hb:PE X b tb) {R:V→V→Hp→Prop} (I:Inv X pins σ H s)
    (h:ta σ H fun x H1=>tb σ H1 fun y H2=>R x y H2) {Q:Value→Shared→Prop} {f:Value→Value→Sem Value}
    (hf:∀v u s2 x y H2,Inv X pins σ H2 s2→RelV x v→RelV y u→R x y H2→wpAny (model X.prog X.w) X.A (f v u) Q X.xe s2) :
    wpAny (model X.prog X.w) X.A (eval a X.env) (fun v s₁=>wpAny (model X.prog X.w) X.A (eval b X.env) (fun u s₂=>wpAny (model X.prog X.w) X.A (f v u) Q X.xe s₂) X.xe s₁) X.xe s:=by
  refine thn (ha pins s σ H _ I h) fun v s1 hq=>?_
  obtain ⟨x,H1,I1,r1,q1⟩:=hq
  refine thn (hb pins s1 σ H1 _ I1 q1) fun u s2 hq=>?_
  obtain ⟨y,H2,I2,r2,q2⟩:=hq
  exact hf v u s2 x y H2 I2 r1 r2 q2
theorem ygZ {op:Operator} {r:R2} (ho:OpR X (binaryOp op) r) (ha:PE X a ta) (hb:PE X b tb):PE X (.BinOp a op b pos) (tOp r ta tb):=by
  intro pins s σ H Q I h
  exact wpAny_BinOp (binT ha hb I h fun v u s2 x y H2 I2 rx ry q=>ho pins s2 σ H2 x y v u Q I2 rx ry q)
theorem zch {op:UnaryOp} {r:V→Hp→VK→Prop} (ho:UnR X (unaryOp op) r) (ha:PE X a ta):PE X (.UnaryOp op a pos) (tUn r ta):=by
  intro pins s σ H Q I h
  exact UnaryOp_ (thn (ha pins s σ H _ I h) fun v s1 ⟨x,H1,I1,r1,q1⟩=>ho pins s1 σ H1 x v Q I1 r1 q1)
theorem opI {f:Value→Value→Sem Value} {C:Int→Int→Prop} {g:Int→Int→Int}
    (rule:∀(i j:Int) (t u:Tok) (s:Shared) (Q:Value→Shared→Prop) (E:Value→Shared→Prop),C i j→Q (.int (g i j) s.toks) { s with toks:=s.toks+1 }→wpAny (model X.prog X.w) X.A (f (.int i t) (.int j u)) Q E s) :
    OpR X f (rI C fun i j=>.int (g i j)):=by
  intro pins s σ H x y v u Q I rx ry h
  obtain ⟨i,j,rfl,rfl,hc,q⟩:=h
  obtain ⟨t,rfl⟩:=rx
  obtain ⟨t',rfl⟩:=ry
  exact rule i j t t' s _ _ hc ⟨.int (g i j),H,I.tok _,⟨_,rfl⟩,q⟩
theorem opI0 {f:Value→Value→Sem Value} {g:Int→Int→Int}
    (rule:∀(i j:Int) (t u:Tok) (s:Shared) (Q:Value→Shared→Prop) (E:Value→Shared→Prop),Q (.int (g i j) s.toks) { s with toks:=s.toks+1 }→wpAny (model X.prog X.w) X.A (f (.int i t) (.int j u)) Q E s) :
    OpR X f (rI0 fun i j=>.int (g i j)):=by
  intro pins s σ H x y v u Q I rx ry h
  obtain ⟨i,j,rfl,rfl,q⟩:=h
  obtain ⟨t,rfl⟩:=rx
  obtain ⟨t',rfl⟩:=ry
  exact rule i j t t' s _ _ ⟨.int (g i j),H,I.tok _,⟨_,rfl⟩,q⟩
theorem opB0 {f:Value→Value→Sem Value} {g:Int→Int→Bool}
    (rule:∀(i j:Int) (t u:Tok) (s:Shared) (Q:Value→Shared→Prop) (E:Value→Shared→Prop),Q (.bool (g i j)) s→wpAny (model X.prog X.w) X.A (f (.int i t) (.int j u)) Q E s) :
    OpR X f (rI0 fun i j=>.bl (g i j)):=by
  intro pins s σ H x y v u Q I rx ry h
  obtain ⟨i,j,rfl,rfl,q⟩:=h
  obtain ⟨t,rfl⟩:=rx
  obtain ⟨t',rfl⟩:=ry
  exact rule i j t t' s _ _ ⟨.bl (g i j),H,I,rfl,q⟩
def CDiv (i j:Int):Prop:=0<j∧j<1073741824
def CPow (i j:Int):Prop:=0≤j∧j≤1000000∧i.natAbs<2^64
def CMul (i j:Int):Prop:=(-(2^64)<i∧i<2^64)∨(-(2^64)<j∧j<2^64)
theorem CMul.ok {i j:Int} (h:CMul i j):IntMulOk i j:=by
  rcases h with ⟨h1,h2⟩ | ⟨h1,h2⟩
  · exact .of_left (intBits_le_64 h1 h2)
  · exact .of_right (intBits_le_64 h1 h2)
theorem yal:OpR X (binaryOp .Add) (rI0 fun i j=>.int (i+j)):=opI0 fun _ _ _ _ _ _ _ q=>add_int q
theorem ya1:OpR X (binaryOp .Sub) (rI0 fun i j=>.int (i-j)):=opI0 fun _ _ _ _ _ _ _ q=>sub_int q
theorem zaJ:OpR X (binaryOp .Mult) (rI CMul fun i j=>.int (i*j)):=opI fun _ _ _ _ _ _ _ hc q=>mul_int q hc.ok
theorem yho:OpR X (binaryOp .FloorDiv) (rI CDiv fun i j=>.int (i/j)):=opI fun i j _ _ _ _ _ hc q=>by
  have h1:(0:Int)<j:=hc.1
  have h2:j<1073741824:=hc.2
  exact floordiv_int (by lia) (by rw [Int.fdiv_eq_ediv_of_nonneg i (by lia)];exact q) (.inl (PyProof.noPylong_small (by lia)))
theorem yan:OpR X (binaryOp .Mod) (rI (fun _ j=>0<j) fun i j=>.int (i%j)):=opI fun i j _ _ _ _ _ hc q=>by
  have h1:(0:Int)<j:=hc
  exact mod_int' (by lia) (by rw [Int.fmod_eq_emod_of_nonneg i (by lia)];exact q)
theorem ydo:OpR X (binaryOp .Pow) (rI CPow fun i j=>.int (i^j.toNat)):=opI fun _ _ _ _ _ _ _ hc q=>pow_int_small hc.1 hc.2.1 hc.2.2 q
theorem zdU:OpR X (inplaceOp .Add) (rI0 fun i j=>.int (i+j)):=opI0 fun _ _ _ _ _ _ _ q=>iadd_int q
theorem zdL:OpR X (inplaceOp .Mult) (rI CMul fun i j=>.int (i*j)):=opI fun _ _ _ _ _ _ _ hc q=>imul_int q hc.ok
theorem unI {f:Value→Sem Value} {g:Int→Int}
    (rule:∀(i:Int) (t:Tok) (s:Shared) (Q:Value→Shared→Prop) (E:Value→Shared→Prop),Q (.int (g i) s.toks) { s with toks:=s.toks+1 }→wpAny (model X.prog X.w) X.A (f (.int i t)) Q E s) :
    UnR X f (rU fun i=>.int (g i)):=by
  intro pins s σ H x v Q I rx h
  obtain ⟨i,rfl,q⟩:=h
  obtain ⟨t,rfl⟩:=rx
  exact rule i t s _ _ ⟨.int (g i),H,I.tok _,⟨_,rfl⟩,q⟩
theorem zbw:UnR X (unaryOp .USub) (rU fun i=>.int (-i)):=unI fun _ _ _ _ _ q=>neg_int q
end
noncomputable def scal:V→V→Bool
  | .non,.non=>true | .non,.int _=>true | .int _,.non=>true | .non,.bl _=>true | .bl _,.non=>true | .non,.str _=>true | .str _,.non=>true
  | .int _,.int _=>true | .bl _,.bl _=>true | .str _,.str _=>true | .byt _,.byt _=>true
  | .int _,.str _=>true | .str _,.int _=>true | .bl _,.str _=>true | .str _,.bl _=>true
  | _,_=>false
inductive GEq (x y:V) (H:Hp) (Q:VK):Prop
  | mk (h:scal x y=true) (q:Q (.bl (decide (x=y))) H):GEq x y H Q
def rEq:R2:=fun x y H Q=>GEq x y H Q
inductive GNe (x y:V) (H:Hp) (Q:VK):Prop
  | mk (h:scal x y=true) (q:Q (.bl (!decide (x=y))) H):GNe x y H Q
def rNe:R2:=fun x y H Q=>GNe x y H Q
theorem zfr {i j:Int}:decide (V.int i=V.int j)=(i==j):=by
  rw [Bool.eq_iff_iff]
  simp
theorem zf3 {i j:Bool}:decide (V.bl i=V.bl j)=(i==j):=by
  rw [Bool.eq_iff_iff]
  simp
theorem ze7:decide (V.str i=V.str j)=(i==j):=by
  rw [Bool.eq_iff_iff]
  simp
theorem zfm {i j:Array UInt8}:decide (V.byt i=V.byt j)=(i.toList==j.toList):=by
  rw [Bool.eq_iff_iff]
  cases i
  cases j
  simp
section
variable {X:Cx} {a b c:Expr} {ta tb tc:TE} {pos:Pos}
theorem zan {k k':Bool} (I:Inv X pins σ H s) (q:Q (.bl k) H) (e:k=k'):EP X pins σ Q (.bool k') s:=by
  subst e
  exact ⟨.bl k,H,I,rfl,q⟩
theorem zaZ:OpR X (compareOp .Eq) rEq:=by
  intro pins s σ H x y v u Q I rx ry h
  obtain ⟨hs,q⟩:=h
  cases x with
  | non =>
    cases rx
    cases y with
    | non=>cases ry;exact PySem.EqNone.eq_none_none (zan I q (by simp))
    | bl j=>cases ry;exact PySem.EqNone.eq_none_bool (zan I q (by simp))
    | int j=>obtain ⟨t',rfl⟩:=ry;exact PySem.EqNone.eq_none_int (zan I q (by simp))
    | str j=>obtain ⟨t',rfl⟩:=ry;exact PySem.EqNone.eq_none_str (zan I q (by simp))
    | _=>exact absurd (show false=true from hs) Bool.false_ne_true
  | bl i =>
    cases rx
    cases y with
    | non=>cases ry;exact PySem.EqNone.eq_bool_none (zan I q (by simp))
    | bl j=>cases ry;exact eq_bool (zan I q zf3)
    | str j=>obtain ⟨t',rfl⟩:=ry;exact PySem.EqMixed.eq_bool_str (zan I q (by simp))
    | _=>exact absurd (show false=true from hs) Bool.false_ne_true
  | int i =>
    obtain ⟨t,rfl⟩:=rx
    cases y with
    | non=>cases ry;exact PySem.EqNone.eq_int_none (zan I q (by simp))
    | int j=>obtain ⟨t',rfl⟩:=ry;exact eq_int (zan I q zfr)
    | str j=>obtain ⟨t',rfl⟩:=ry;exact PySem.EqMixed.eq_int_str (zan I q (by simp))
    | _=>exact absurd (show false=true from hs) Bool.false_ne_true
  | str i =>
    obtain ⟨t,rfl⟩:=rx
    cases y with
    | non=>cases ry;exact PySem.EqNone.eq_str_none (zan I q (by simp))
    | bl j=>cases ry;exact PySem.EqMixed.eq_str_bool (zan I q (by simp))
    | int j=>obtain ⟨t',rfl⟩:=ry;exact PySem.EqMixed.eq_str_int (zan I q (by simp))
    | str j=>obtain ⟨t',rfl⟩:=ry;exact eq_str (zan I q ze7)
    | _=>exact absurd (show false=true from hs) Bool.false_ne_true
  | byt i =>
    obtain ⟨t,rfl⟩:=rx
    cases y with
    | byt j=>obtain ⟨t',rfl⟩:=ry;exact PySem.W.eq_bytes (zan I q zfm)
    | _=>exact absurd (show false=true from hs) Bool.false_ne_true
  | _=>cases y <;> exact absurd (show false=true from hs) Bool.false_ne_true
theorem zbW:OpR X (compareOp .NotEq) rNe:=by
  intro pins s σ H x y v u Q I rx ry h
  obtain ⟨hs,q⟩:=h
  cases x with
  | non =>
    cases rx
    cases y with
    | non=>cases ry;exact PySem.EqNone.ne_none_none (zan I q (by simp))
    | bl j=>cases ry;exact PySem.EqNone.ne_none_bool (zan I q (by simp))
    | int j=>obtain ⟨t',rfl⟩:=ry;exact PySem.EqNone.ne_none_int (zan I q (by simp))
    | str j=>obtain ⟨t',rfl⟩:=ry;exact PySem.EqNone.ne_none_str (zan I q (by simp))
    | _=>exact absurd (show false=true from hs) Bool.false_ne_true
  | bl i =>
    cases rx
    cases y with
    | non=>cases ry;exact PySem.EqNone.ne_bool_none (zan I q (by simp))
    | bl j=>cases ry;exact ne_bool (zan I q (congrArg not zf3))
    | str j=>obtain ⟨t',rfl⟩:=ry;exact PySem.EqMixed.ne_bool_str (zan I q (by simp))
    | _=>exact absurd (show false=true from hs) Bool.false_ne_true
  | int i =>
    obtain ⟨t,rfl⟩:=rx
    cases y with
    | non=>cases ry;exact PySem.EqNone.ne_int_none (zan I q (by simp))
    | int j=>obtain ⟨t',rfl⟩:=ry;exact ne_int (zan I q (congrArg not zfr))
    | str j=>obtain ⟨t',rfl⟩:=ry;exact PySem.EqMixed.ne_int_str (zan I q (by simp))
    | _=>exact absurd (show false=true from hs) Bool.false_ne_true
  | str i =>
    obtain ⟨t,rfl⟩:=rx
    cases y with
    | non=>cases ry;exact PySem.EqNone.ne_str_none (zan I q (by simp))
    | bl j=>cases ry;exact PySem.EqMixed.ne_str_bool (zan I q (by simp))
    | int j=>obtain ⟨t',rfl⟩:=ry;exact PySem.EqMixed.ne_str_int (zan I q (by simp))
    | str j=>obtain ⟨t',rfl⟩:=ry;exact ne_str (zan I q (congrArg not ze7))
    | _=>exact absurd (show false=true from hs) Bool.false_ne_true
  | byt i =>
    obtain ⟨t,rfl⟩:=rx
    cases y with
    | byt j=>obtain ⟨t',rfl⟩:=ry;exact PySem.W.ne_bytes (zan I q (congrArg not zfm))
    | _=>exact absurd (show false=true from hs) Bool.false_ne_true
  | _=>cases y <;> exact absurd (show false=true from hs) Bool.false_ne_true
theorem zdm:OpR X (compareOp .Lt) (rI0 fun i j=>.bl (decide (i<j))):=opB0 fun _ _ _ _ _ _ _ q=>lt_int q
theorem ycG:OpR X (compareOp .LtE) (rI0 fun i j=>.bl (decide (i≤j))):=opB0 fun _ _ _ _ _ _ _ q=>le_int q
theorem ybM:OpR X (compareOp .Gt) (rI0 fun i j=>.bl (decide (j<i))):=opB0 fun _ _ _ _ _ _ _ q=>gt_int q
theorem ygP:OpR X (compareOp .GtE) (rI0 fun i j=>.bl (decide (j≤i))):=opB0 fun _ _ _ _ _ _ _ q=>ge_int q
theorem ydA (b:Expr) {op:CmpOp} (h:op≠.In:=by decide) (h2:op≠.NotIn:=by decide):behindInMarks op b=false:=by
  have e1:(op==CmpOp.In)=false:=by cases op <;> first|rfl|exact absurd rfl h
  have e2:(op==CmpOp.NotIn)=false:=by cases op <;> first|rfl|exact absurd rfl h2
  cases b <;> simp [behindInMarks,e1,e2]
theorem ybS {op:CmpOp} {r:R2} (ho:OpR X (compareOp op) r) (ha:PE X a ta) (hb:PE X b tb) (hm:behindInMarks op b=false):PE X (.Compare a [op] [b] pos) (tOp r ta tb):=by
  intro pins s σ H Q I h
  exact wpAny_Compare1 (binT ha hb I h fun v u s2 x y H2 I2 rx ry q=>ho pins s2 σ H2 x y v u Q I2 rx ry q) hm
inductive GBl (x:V) (H:Hp) (Q:Bool→Hp→Prop):Prop
  | mk (k:Bool) (e:x = .bl k) (q:Q k H):GBl x H Q
def zgZ (t:TE):TT:=fun σ H Q=>t σ H fun x H'=>GBl x H' Q
theorem ygx {op:CmpOp} {r:R2} (ho:OpR X (compareOp op) r) (ha:PE X a ta) (hb:PE X b tb) (hm:behindInMarks op b=false):PT X (.Compare a [op] [b] pos) (zgZ (tOp r ta tb)):=by
  intro pins s σ H Q I h
  refine wpAny_isTrue_Compare1 (thn (ha pins s σ H _ I h) fun v s1 ⟨x,H1,I1,r1,q1⟩=>thn (hb pins s1 σ H1 _ I1 q1) fun u s2 ⟨y,H2,I2,r2,q2⟩ =>
    thn (ho pins s2 σ H2 x y v u _ I2 r1 r2 q2) fun c s3 ⟨z,H3,I3,r3,k,e,q3⟩=>?_) hm
  subst e
  cases r3
  exact wpAny_truthy_bool ⟨H3,I3,q3⟩
noncomputable def zf5 (r r':R2) (ta tb tc:TE):TE:=fun σ H Q=>ta σ H fun x H1=>tb σ H1 fun y H2=>r x y H2 fun z H3=>∃k,z = .bl k∧
  (if k=true then tc σ H3 fun w' H4=>r' y w' H4 Q else Q (.bl false) H3)
theorem yfN {op op':CmpOp} {r r':R2} (ho:OpR X (compareOp op) r) (ho':OpR X (compareOp op') r') (ha:PE X a ta) (hb:PE X b tb) (hc:PE X c tc)
    (hm:lastMarks [op,op'] [b,c]=false:=by with_unfolding_all rfl):PE X (.Compare a [op,op'] [b,c] pos) (zf5 r r' ta tb tc):=by
  intro pins s σ H Q I h
  refine Compare_chain (thn (ha pins s σ H _ I h) fun v s1 ⟨x,H1,I1,r1,q1⟩=>chain_link (thn (hb pins s1 σ H1 _ I1 q1) fun u s2 ⟨y,H2,I2,r2,q2⟩ =>
    thn (ho pins s2 σ H2 x y v u _ I2 r1 r2 q2) fun d s3 ⟨z,H3,I3,r3,k,e,q3⟩=>?_)) hm
  subst e
  cases r3
  refine wpAny_truthy_bool ?_
  cases k with
  | false=>exact ite_ff ⟨.bl false,H3,I3,rfl,q3⟩
  | true=>exact ite_tt (chain_last (thn (hc pins s3 σ H3 _ I3 q3) fun w' s4 ⟨z',H4,I4,r4,q4⟩=>ho' pins s4 σ H4 y z' u w' Q I4 r2 r4 q4))
theorem zbC {op op':CmpOp} {r r':R2} (ho:OpR X (compareOp op) r) (ho':OpR X (compareOp op') r') (ha:PE X a ta) (hb:PE X b tb) (hc:PE X c tc)
    (hm:lastMarks [op,op'] [b,c]=false:=by with_unfolding_all rfl):PT X (.Compare a [op,op'] [b,c] pos) (zgZ (zf5 r r' ta tb tc)):=by
  intro pins s σ H Q I h
  refine isTrue_chain (thn (ha pins s σ H _ I h) fun v s1 ⟨x,H1,I1,r1,q1⟩=>test_link (thn (hb pins s1 σ H1 _ I1 q1) fun u s2 ⟨y,H2,I2,r2,q2⟩ =>
    thn (ho pins s2 σ H2 x y v u _ I2 r1 r2 q2) fun d s3 ⟨z,H3,I3,r3,k,e,q3⟩=>?_)) hm
  subst e
  cases r3
  refine wpAny_truthy_bool ?_
  cases k with
  | false =>
    obtain ⟨k',e',q'⟩:=q3
    cases e'
    exact ite_ff ⟨H3,I3,q'⟩
  | true =>
    refine ite_tt (test_last (thn (hc pins s3 σ H3 _ I3 q3) fun w' s4 ⟨z',H4,I4,r4,q4⟩=>thn (ho' pins s4 σ H4 y z' u w' _ I4 r2 r4 q4) fun d' s5 hq=>?_))
    obtain ⟨z2,H5,I5,r5,k2,e2,q5⟩:=hq
    subst e2
    cases r5
    exact wpAny_truthy_bool ⟨H5,I5,q5⟩
theorem zej:(sizeLine:Nat)<2^63:=by rw [sizeLine_eq];decide
theorem zcH (r:Vals [x] us):∃u,us=[u]∧RelV x u:=by
  cases r with
  | cons r1 r2=>cases r2;exact ⟨_,rfl,r1⟩
theorem zfK (r:Vals [x,y] us):Ex2 fun u w'=>us=[u,w']∧RelV x u∧RelV y w':=by
  cases r with
  | cons r1 r2 =>
    cases r2 with
    | cons r3 r4=>cases r4;exact ⟨_,_,rfl,r1,r3⟩
theorem yef:zaY X (.builtin "abs") (fun xs H Q=>∃i,xs=[.int i]∧Q (.int (if i<0 then -i else i)) H):=by
  intro pins s σ H xs us Q I r h
  obtain ⟨i,rfl,q⟩:=h
  obtain ⟨u,rfl,t,rfl⟩:=zcH r
  exact call_abs_int fun u tk=>⟨.int (if i<0 then -i else i),H,I.tok _,⟨_,rfl⟩,q⟩
theorem zeU (hc:X.calm=true):zaY X (.builtin "max") (fun xs H Q=>Ex2 fun i j=>xs=[.int i,.int j]∧Q (.int (if j>i then j else i)) H):=by
  intro pins s σ H xs us Q I r h
  obtain ⟨i,j,rfl,q⟩:=h
  obtain ⟨u,w',rfl,⟨t,rfl⟩,⟨t',rfl⟩⟩:=zfK r
  refine max_two_ints (I.ok.hd hc) fun h' tk k=>⟨_,H,I.kept k,?_,q⟩
  by_cases hj:j>i
  · rw [if_pos hj,if_pos hj];exact ⟨_,rfl⟩
  · rw [if_neg hj,if_neg hj];exact ⟨_,rfl⟩
theorem zeG (hc:X.calm=true):zaY X (.builtin "min") (fun xs H Q=>Ex2 fun i j=>xs=[.int i,.int j]∧Q (.int (if j<i then j else i)) H):=by
  intro pins s σ H xs us Q I r h
  obtain ⟨i,j,rfl,q⟩:=h
  obtain ⟨u,w',rfl,⟨t,rfl⟩,⟨t',rfl⟩⟩:=zfK r
  refine min_two_ints (I.ok.hd hc) fun h' tk k=>⟨_,H,I.kept k,?_,q⟩
  by_cases hj:j<i
  · rw [if_pos hj,if_pos hj];exact ⟨_,rfl⟩
  · rw [if_neg hj,if_neg hj];exact ⟨_,rfl⟩
end
end L2
namespace L2
open PySem PySem.Spec PyProof.Rows
structure ObjM (h:Heap) (x dx C:Addr) (mA:Str→Option Value):Prop where
  obj:h.get? x=some (PySem.W.instObj C dx)
  ns:h.Ns1 dx mA
  ne:dx≠x
theorem RelO.some_of {v:V} {o:Option Value} (r:RelO (some v) o):∃u,o=some u∧RelV v u:=by
  cases o with
  | none=>exact (show False from r).elim
  | some u=>exact ⟨u,rfl,r⟩
structure Cls (K:PySem.W.Frag) (C:Addr):Prop where
  pg:PySem.W.plainGet K C Str.empty=true
  hd:PySem.W.hasDictIn K C=true
  po:PySem.W.plainOver K C=true
  sa:PySem.W.findIn K (.ref C) "__setattr__"=some (some (.builtin "object.__setattr__"))
structure Con (K:PySem.W.Frag) (C:Addr) (f:Str) (v:V) (u:Value):Prop where
  at_:PySem.W.findIn K (.ref C) f=some (some u)
  rel:RelV v u
  get:PySem.W.specialIn K u "__get__"=some none
  cp:PySem.W.copiedNames.contains f=false
structure Meth (K:PySem.W.Frag) (C:Addr) (m:Str) (f:Addr):Prop where
  at_:PySem.W.findIn K (.ref C) m=some (some (.ref f))
  fn:PySem.W.isFn K (.ref f)=true
  kp:PySem.W.keepIn K (.ref f)=true
section
variable {X:Cx} {pins:List (Addr×Obj)} {σ:St} {H:Hp} {s:Shared} {A:Around} {E:Value→Shared→Prop} {Q:Value→Shared→Prop} {c:Value} {b:Bool}
inductive TyOf (K:PySem.W.Frag) (H:Hp):V→Value→Prop where
  | non:TyOf K H .non (.type "NoneType")
  | bl (x:Bool):TyOf K H (.bl x) (.type "bool")
  | int (i:Int):TyOf K H (.int i) (.type "int")
  | str (x:Str):TyOf K H (.str x) (.type "str")
  | flt (x:UInt64):TyOf K H (.flt x) (.type "float")
  | lst {a:Addr} {xs:List V} (e:H a=some (.lst xs)):TyOf K H (.ref a) (.type "list")
  | frz {a:Addr} {o:Obj} {xs:List V} (e:H a=some (.frz o (.lst xs))):TyOf K H (.ref a) (.type "list")
  | tup {a:Addr} {xs:List V} (e:H a=some (.tup xs)):TyOf K H (.ref a) (.type "tuple")
  | dK {a:Addr} {kvs:List (Key×V)} (e:H a=some (.dK kvs)):TyOf K H (.ref a) (.type "dict")
  | dT {a:Addr} {kvs:List (List Key×V)} (e:H a=some (.dT kvs)):TyOf K H (.ref a) (.type "dict")
  | ins {a C dx:Addr} {fs:List (Str×V)} (e:H a=some (.ins C dx fs)) (cl:Cls K C) (ha:PySem.W.findIn K (.ref C) "__class__"=some (some (.builtin "object.__class__")))
      (hn:PySem.W.specialIn K (.builtin "object.__class__") "__get__"=some (some (.builtin "getset_descriptor.__get__"))) (htk:PySem.W.takesIn K (.builtin "object.__class__")=some true)
      (hm:PySem.W.mroIn K C (.type "object")=some true):TyOf K H (.ref a) (.ref C)
end
end L2
namespace L2
open PySem PySem.Spec PyProof.Rows
structure Room (k:Nat) (A:Around):Prop where
  hd:A.handled=none
  dp:A.depth+3*k+5<recursionLimit
  un:A.units+16*k+200<cLine
  gd:A.guards=some []
theorem Room.mono {j k:Nat} (r:Room k A) (h:j≤k):Room j A:=⟨r.hd,by have:=r.dp;lia,by have:=r.un;lia,r.gd⟩
theorem Room.deeper {k:Nat} (r:Room (k+1) A) (env:Env):Room k (A.deeper env) :=
  ⟨r.hd,by have:=r.dp;show A.depth+1+3*k+5<_;lia,by have:=r.un;show A.units+3+16*k+200<_;lia,r.gd⟩
theorem Room.depth {k:Nat} (r:Room k A):A.depth<recursionLimit:=by have:=r.dp;lia
theorem Room.units {k:Nat} (r:Room k A):A.units+64<cLine:=by have:=r.un;lia
theorem Room.units0 {k:Nat} (r:Room k A):A.units<cLine:=by have:=r.un;lia
def tNil:TA:=fun _ H Q=>Q [] H
def zcG (ta:TE) (tr:TA):TA:=fun σ H Q=>ta σ H fun x H1=>tr σ H1 fun xs H2=>Q (x::xs) H2
section
variable {X:Cx} {e:Expr} {es:List Expr} {te:TE} {t:TA} {pos:Pos}
theorem yaa:PA X [] tNil:=fun _ _ _ _ H Q I h=>Calls.spliced_nil ⟨[],H,I,.nil,h⟩
theorem zcu (ha:PE X e te) (hr:PA X es t) (hs:starEach (e::es) X.env=(false,eval e X.env)::starEach es X.env:=by rfl):PA X (e::es) (zcG te t):=by
  intro pos pins s σ H Q I h
  rw [hs]
  show wpAny _ _ (spliced ((false,eval e X.env)::backTo pos (starEach es X.env))) _ _ s
  refine Calls.spliced_cons (thn (ha pins s σ H _ I h) fun u s1 hq=>?_)
  obtain ⟨x,H1,I1,r1,q1⟩:=hq
  exact thn (hr pos pins s1 σ H1 _ I1 q1) fun us s2 ⟨xs,H2,I2,r2,q2⟩=>⟨x::xs,H2,I2,.cons r1 r2,q2⟩
def tTup (t:TA):TE:=fun σ H Q=>t σ H fun xs H1=>xs.length≤sizeLine∧∀p,H1 p=none→Q (.ref p) (upd H1 p (.tup xs))
def tLst (t:TA):TE:=fun σ H Q=>t σ H fun xs H1=>xs.length≤sizeLine∧∀p,H1 p=none→Q (.ref p) (upd H1 p (.lst xs))
theorem yax {x1} (h:PA X es t):PE X (.Tuple es x1 pos) (tTup t):=by
  intro pins s σ H Q I hq
  refine wpAny_Tuple_spliced (thn (h pos pins s σ H _ I hq) fun us s1 ⟨xs,H1,I1,r,z,q⟩=>⟨by rw [←r.length];exact z,?_⟩)
  have hf:H1 s1.heap.objs.size=none:=I1.hok.fresh (Nat.le_refl _)
  refine ⟨.ref s1.heap.objs.size,upd H1 s1.heap.objs.size (.tup xs),I1.laid (t':=s1.toks) (fun b u e=>Heap.get?_push_of_some _ e) (Nat.le_refl _) ?_,rfl,q _ hf⟩
  exact ⟨z,us,r,⟨_,Heap.get?_push_size _ rfl,rfl,_,rfl⟩⟩
theorem zap (h:PA X es t):PE X (.List es pos) (tLst t):=by
  intro pins s σ H Q I hq
  refine wpAny_List_spliced (thn (h pos pins s σ H _ I hq) fun us s1 ⟨xs,H1,I1,r,z,q⟩=>⟨by rw [←r.length];exact z,?_⟩)
  have hf:H1 s1.heap.objs.size=none:=I1.hok.fresh (Nat.le_refl _)
  refine ⟨.ref s1.heap.objs.size,upd H1 s1.heap.objs.size (.lst xs),I1.laid (t':=s1.toks) (fun b u e=>Heap.get?_push_of_some _ e) (Nat.le_refl _) ?_,rfl,q _ hf⟩
  exact ⟨z,us,0,r,Heap.get?_push_size _ rfl⟩
end
abbrev Sp:=List V→Hp→VK→XK→Prop
abbrev CXT:=List Env→Hp→Shared→XK→Value→Shared→Prop
structure Env0 (P:Program) (w:World) (K:PySem.W.Frag) (mg:Str→Option Value) (base:Heap) (A:Around) (outer:List Env) (s:Shared) (H:Hp):Prop where
  frames:A.frames=some outer
  mod:Mod K mg base
  bs:∀b o,base.get? b=some o→s.heap.get? b=some o∧H b=none
  bsz:base.objs.size≤s.heap.objs.size
  funs:s.heap.FunFrames base outer
  frf:∀b∈frs outer,H b=none
  hok:HOk P w H s.heap
  bare:AllBare s.gens
noncomputable def CE (outer:List Env) (P:Program) (w:World) (H:Hp) (s:Shared) (Q:VK) (u:Value) (s':Shared):Prop :=
  Ex2 fun v H'=>s'.os=s.os∧AllBare s'.gens∧Un (frs outer) [] H H' s.heap s'.heap∧HOk P w H' s'.heap∧RelV v u∧Q v H'
noncomputable def CR (CX:CXT) (outer:List Env) (P:Program) (w:World) (H:Hp) (s:Shared) (Q:VK) (E:XK) (r:Result) (s':Shared):Prop :=
  match r with
  | .ok (.ret u)=>CE outer P w H s Q u s'
  | .ok _=>False
  | .error e=>CX outer H s E e s'
structure FnOk (P:Program) (w:World) (K:PySem.W.Frag) (mg:Str→Option Value) (base:Heap) (CX:CXT) (k:Nat) (f:Addr) (fd:FuncData) (ps:List Str) (sp:Sp):Prop where
  len:∀vs H Q E,sp vs H Q E→vs.length=ps.length
  run:∀(A:Around) (outer:List Env) (s:Shared) (H:Hp) (args:Args) (us:List Value) (vs:List V) (Q:VK) (E:XK),Room k A→Env0 P w K mg base A outer s H→BindsTo s fd args (ps.zip us)→Vals vs us→sp vs H Q E→
    codeAny (model P w) A (.call (.ref f) args) (CR CX outer P w H s Q E) s
theorem FnOk.mono {K:PySem.W.Frag} {mg:Str→Option Value} {CX:CXT} {j k:Nat} (F:FnOk P w K mg base CX j f fd ps sp) (h:j≤k) :
    FnOk P w K mg base CX k f fd ps sp:=⟨F.len,fun A outer s H args us vs Q E hr=>F.run A outer s H args us vs Q E (hr.mono h)⟩
theorem FnOk.imp {K:PySem.W.Frag} {mg:Str→Option Value} {CX:CXT} {k:Nat} (F:FnOk P w K mg base CX k f fd ps sp)
    (h:∀vs H Q E,sp' vs H Q E→sp vs H Q E):FnOk P w K mg base CX k f fd ps sp' :=
  ⟨fun vs H Q E q=>F.len vs H Q E (h _ _ _ _ q),fun A outer s H args us vs Q E hr he hb hv hs=>F.run A outer s H args us vs Q E hr he hb hv (h _ _ _ _ hs)⟩
section
variable {X:Cx} {pins:List (Addr×Obj)} {σ:St} {H:Hp} {s s':Shared}
theorem Inv.env0 (I:Inv X pins σ H s):Env0 X.prog X.w X.K X.mg X.base X.A X.stack s H :=
  ⟨I.ok.frames,I.ok.mod,I.bs,Nat.le_trans I.ok.bsz I.sz,I.stack,I.stkFree,I.hok,I.bare⟩
theorem Inv.after (I:Inv X pins σ H s) (h:CE X.stack X.prog X.w H s Q u s'):EP X pins σ Q u s':=by
  obtain ⟨v,H',os,bare,un,hok,r,q⟩:=h
  obtain ⟨hh,g,d,t,os'⟩:=s'
  obtain rfl:os'=s.os:=os
  exact ⟨v,H',I.call (h':=hh) (g':=g) (d':=d) (t':=t) (ch:=[]) un hok bare (fun b z=>absurd z (by simp)),r,q⟩
end
def zgD (sp:Sp) (dvs:List V) (E:XK) (t:TA):TE:=fun σ H Q=>t σ H fun vs H1=>sp (vs++dvs) H1 Q E
noncomputable def yet (K:PySem.W.Frag) (fd:FuncData) (ps:List Str) (ds:List Value):Prop :=
  ∀(s:Shared) (us:List Value),K.In s.heap→(us++ds).length=ps.length→BindsTo s fd ⟨us,[]⟩ (ps.zip (us++ds))
theorem yet.all {K:PySem.W.Frag} (h:∀us:List Value,us.length=ps.length→bindArgs fd ⟨us,[]⟩=pure (ps.zip us)):yet K fd ps []:=fun s us _ hl=>by
  rw [List.append_nil] at hl ⊢
  exact .of_eq (h us hl)
noncomputable def yeY (CX:CXT) (X:Cx) (E:XK):Prop:=∀(pins:List (Addr×Obj)) (σ:St) (H:Hp) (s:Shared) (e:Value) (s':Shared),Inv X pins σ H s→CX X.stack H s E e s'→X.xe e s'
section
variable {X:Cx} {CX:CXT} {k:Nat} {f C:Addr} {fd:FuncData} {ps:List Str} {sp:Sp} {dvs:List V} {ds:List Value} {E:XK} {x m:Str} {p pos apos:Pos} {e o:Expr} {es:List Expr} {ta:TE} {t:TA}
theorem ygS (F:FnOk X.prog X.w X.K X.mg X.base CX k f fd ps sp) (hr:Room k X.A) (hb:yet X.K fd ps ds) (hd:Vals dvs ds) (hx:yeY CX X E)
    (I:Inv X pins σ H s) (r:Vals vs us) (h:sp (vs++dvs) H Q E):wpAny (model X.prog X.w) X.A (call (.ref f) us) (EP X pins σ Q) X.xe s:=by
  have r2:Vals (vs++dvs) (us++ds):=r.append hd
  have hl:(us++ds).length=ps.length:=by rw [←r2.length];exact F.len _ _ _ _ h
  refine wpAny_call (codeAny_mono (F.run X.A X.stack s H ⟨us,[]⟩ (us++ds) (vs++dvs) Q E hr I.env0 (hb s us I.kIn hl) r2 h) fun r s' hq=>?_)
  cases r with
  | error e=>exact hx pins σ H s e s' I hq
  | ok fl =>
    cases fl with
    | ret u=>exact I.after hq
    | next=>exact False.elim hq
    | brk=>exact False.elim hq
    | cont=>exact False.elim hq
theorem zgq (F:FnOk X.prog X.w X.K X.mg X.base CX k f fd ps sp) (hr:Room k X.A) (hg:Gl X x) (hm:X.mg x=some (.ref f)) (hk:PySem.W.keepIn X.K (.ref f)=true) (hb:yet X.K fd ps ds) (hd:Vals dvs ds) (hx:yeY CX X E)
    (ha:PA X (e::es) t) (hdb:(x==("__debug__":Str))=false:=by decide) (he:starEach (e::es) X.env=(false,eval e X.env)::starEach es X.env:=by rfl) (hpl:(backTo pos (starEach es X.env)).any (·.1)=false:=by rfl) :
    PE X (.Call (.Name x p) (e::es) [] pos) (zgD sp dvs E t):=by
  intro pins s σ H Q I h
  refine wpAny_Call_Name_kw (yeR I hg hm ?_ hdb)
  refine PySem.W.callWith_K (h₀:=X.base) I.ok.mod.kin hk (thn (ha pos pins s σ H _ I h) fun us s1 ⟨vs,H1,I1,r,q⟩=>⟨I1.kIn,?_⟩) he hpl
  exact ygS F hr hb hd hx I1 r q
structure Mk (K:PySem.W.Frag) (C f:Addr):Prop where
  makes:PySem.W.makesIn K C=true
  init:PySem.W.findIn K (.ref C) "__init__"=some (some (.ref f))
  fn:PySem.W.isFn K (.ref f)=true
  kp:PySem.W.keepIn K (.ref C)=true
end
section
variable {X:Cx} {CX:CXT} {k:Nat} {f C:Addr} {fd:FuncData} {ps ks:List Str} {sp:Sp} {E:XK} {x m:Str} {p pos apos kpos:Pos} {e o:Expr} {es:List Expr} {kws:List Keyword} {te ta:TE} {t tk:TA} {nm:Option Str}
structure KBinds (K:PySem.W.Frag) (fd:FuncData) (ps ks:List Str) (g:List Value→List Value→List Value) (gV:List V→List V→List V):Prop where
  to:∀(s:Shared) (us ws:List Value),K.In s.heap→(g us ws).length=ps.length→BindsTo s fd ⟨us,ks.zip ws⟩ (ps.zip (g us ws))
  rel:∀ {vs:List V} {us:List Value} {zs:List V} {ws:List Value},Vals vs us→Vals zs ws→Vals (gV vs zs) (g us ws)
variable {g:List Value→List Value→List Value} {gV:List V→List V→List V}
end
structure yaf (N P:List Str) (sc:Scope):Prop where
  kind:sc.kind = .function
  co:sc.isCoroutine=false
  gen:sc.isGenerator=false
  nd:N.Nodup
  pre:N.take P.length=P
  par:∀x∈P,sc.names.lookup x=some .local∨sc.names.lookup x=some .cell
  nofree:∀y∈sc.names,y.2≠.free
theorem ydz {kindOf:Str→Option NameKind}:∀ {binds:List (Str×Value)} {m:Str→Option Value},(∀v,(x,v)∉binds)→bindL kindOf binds m x=m x
  | [],_,_=>rfl
  | (n,v)::r,m,h=>by
    unfold bindL
    rw [ydz fun w hw=>h w (List.mem_cons_of_mem _ hw)]
    split
    · have:x≠n:=by rintro rfl;exact h v List.mem_cons_self
      simp [this]
    · rfl
theorem zdr {kindOf:Str→Option NameKind}:∀ {binds:List (Str×Value)} {m:Str→Option Value},(∀v,(x,v)∉binds)→bindC kindOf binds m x=m x
  | [],_,_=>rfl
  | (n,v)::r,m,h=>by
    unfold bindC
    rw [zdr fun w hw=>h w (List.mem_cons_of_mem _ hw)]
    split
    · rfl
    · have:x≠n:=by rintro rfl;exact h v List.mem_cons_self
      simp [this]
theorem ydm {kindOf:Str→Option NameKind}:∀ {P:List Str} {vs:List Value} {i:Nat} {m:Str→Option Value},P.Nodup→P[i]?=some x→vs[i]?=some v→kindOf x=some .local→
    bindL kindOf (P.zip vs) m x=some v
  | [],_,_,_,_,h,_,_=>by simp at h
  | _::_,[],_,_,_,_,h,_=>by simp at h
  | p::P,w::vs,0,m,nd,h1,h2,hk=>by
    simp at h1 h2;subst h1;subst h2
    show bindL kindOf ((p,w)::P.zip vs) m p=_
    unfold bindL
    rw [ydz fun v hv=>(List.nodup_cons.mp nd).1 (List.of_mem_zip hv).1,if_pos hk]
    simp
  | p::P,w::vs,i+1,m,nd,h1,h2,hk=>by
    show bindL kindOf ((p,w)::P.zip vs) m x=_
    unfold bindL
    exact ydm (i:=i) (List.nodup_cons.mp nd).2 (by simpa using h1) (by simpa using h2) hk
theorem ydq {kindOf:Str→Option NameKind} {x:Str} {v:Value}:∀ {P:List Str} {vs:List Value} {i:Nat} {m:Str→Option Value},P.Nodup→P[i]?=some x→vs[i]?=some v→kindOf x≠some .local→
    bindC kindOf (P.zip vs) m x=some v
  | [],_,_,_,_,h,_,_=>by simp at h
  | _::_,[],_,_,_,_,h,_=>by simp at h
  | p::P,w::vs,0,m,nd,h1,h2,hk=>by
    simp at h1 h2;subst h1;subst h2
    show bindC kindOf ((p,w)::P.zip vs) m p=_
    unfold bindC
    rw [zdr fun v hv=>(List.nodup_cons.mp nd).1 (List.of_mem_zip hv).1,if_neg hk]
    simp
  | p::P,w::vs,i+1,m,nd,h1,h2,hk=>by
    show bindC kindOf ((p,w)::P.zip vs) m x=_
    unfold bindC
    exact ydq (i:=i) (List.nodup_cons.mp nd).2 (by simpa using h1) (by simpa using h2) hk
def ydI (N:List Str) (vs:List V):St:=vs.map some++List.replicate (N.length-vs.length) none
noncomputable def cxOf (CX:CXT) (P:Program) (w:World) (K:PySem.W.Frag) (mg:Str→Option Value) (base:Heap) (N:List Str) (qual:Str) (scope:Scope) (f:Addr) (cd:Value) (A:Around) (outer:List Env) (s:Shared) (H:Hp) (E:XK):Cx where
  prog:=P
  w:=w
  K:=K
  mg:=mg
  base:=base
  A:=A.deeper (envOfC qual scope s.heap.objs.size f cd)
  N:=N
  s₀:=s
  H₀:=H
  env:=envOfC qual scope s.heap.objs.size f cd
  outer:=outer
  stack:=envOfC qual scope s.heap.objs.size f cd::outer
  ex:=[]
  calm:=true
  fn:=fun _=>true
  pn:=[]
  xe:=fun e s'=>wpAny (model P w) (A.deeper (envOfC qual scope s.heap.objs.size f cd)) (leaving (envOfC qual scope s.heap.objs.size f cd) e) (fun _ s''=>CX outer H s E e s'') (fun e' s''=>CX outer H s E e' s'') s'
theorem zei {sc:Scope} {n:Nat} {x:Str} (h:sc.names.lookup x=some .cell):∃c,(cellsFrom n sc.names []).lookup x=some c:=by
  have q:=PySem.W.cellsFrom_some sc.names n [] (.inl h)
  exact Option.isSome_iff_exists.mp q
theorem zfi {CX:CXT} {K:PySem.W.Frag} {mg:Str→Option Value}
    (S:yaf N ps scope) (hd:A.handled=none) (e0:Env0 P w K mg base A outer s H) (hl:vs.length=ps.length) (r:Vals vs us)
    (x:InCallC s s.heap.objs.size (bindL (envOfC qual scope s.heap.objs.size f cd).kindOf (ps.zip us) fun _=>none) (cellsFrom (s.heap.objs.size+1) scope.names []) (bindC (envOfC qual scope s.heap.objs.size f cd).kindOf (ps.zip us) fun _=>none) s1) :
    Inv (cxOf CX P w K mg base N qual scope f cd A outer s H E) [] (ydI N vs) H s1:=by
  have hpl:ps.length≤N.length:=by have:=congrArg List.length S.pre;rw [List.length_take] at this;lia
  obtain ⟨h1,tk,rfl,hk⟩:=x.done
  have noA:∀b:Addr,b∉(cxOf CX P w K mg base N qual scope f cd A outer s H E).ex:=fun b z=>absurd (show b∈([]:List Addr) from z) (by simp)
  refine ⟨⟨e0.mod,S.kind,rfl,rfl,Nat.le_refl _,fun y z c h1 h2=>?_,fun y hy=>?_,fun y c _ h=>?_,fun _=>hd,Around.frames_deeper e0.frames,.inr ⟨rfl,rfl⟩,fun b z=>absurd z (noA b),e0.bs,e0.bsz,fun b _ _=>noA b,fun b z=>absurd z (noA b),e0.funs,e0.frf⟩,
    rfl,e0.bare,Un.kept hk,⟨_,x.toInCall.ns,fun i y v h1 h2 h3=>?_⟩,fun y c h=>⟨_,x.cell y c h⟩,e0.hok.fresh (Nat.le_refl _),fun y c h=>?_,fun p hp=>absurd (show p∈([]:List (Addr×Obj)) from hp) (by simp),e0.hok.kept hk,?_⟩
  · exact name_of_addr x.apart (PySem.mem_of_lookup h1) (PySem.mem_of_lookup h2)
  · have hy:scope.names.lookup y=some .cell∨scope.names.lookup y=some .free:=hy
    rcases hy with hy|hy
    · exact zei hy
    · exact absurd rfl (S.nofree _ (PySem.mem_of_lookup hy))
  · exact Nat.le_of_lt (x.above y c (PySem.mem_of_lookup h))
  · have hi:i<vs.length:=by
      unfold ydI at h2
      by_cases hi:i<vs.length
      · exact hi
      · rw [List.getElem?_append_right (by simpa using hi)] at h2
        rw [List.getElem?_replicate] at h2
        split at h2 <;> cases h2
    have ha:vs[i]?=some v:=by
      unfold ydI at h2
      rw [List.getElem?_append_left (by simpa using hi),List.getElem?_map] at h2
      cases e:vs[i]? with
      | none=>rw [e] at h2;cases h2
      | some a=>rw [e] at h2;cases h2;rfl
    obtain ⟨u,hu,rv⟩:=r.get ha
    have hp:ps[i]?=some y:=by
      rw [←S.pre,List.getElem?_take_of_lt (by lia)];exact h1
    have ndP:ps.Nodup:=by rw [←S.pre];exact S.nd.sublist (List.take_sublist _ _)
    refine ⟨u,rv,?_⟩
    rcases S.par y (List.mem_of_getElem? hp) with k|k
    · exact .inl ⟨k,ydm ndP hp hu k⟩
    · obtain ⟨c,e⟩:=zei (n:=s.heap.objs.size+1) k
      refine .inr ⟨.inl k,c,e,?_⟩
      have q:=x.cell y c e
      rw [ydq ndP hp hu (by show scope.names.lookup y≠_;rw [k];decide)] at q
      exact q
  · exact e0.hok.fresh (Nat.le_of_lt (x.above y c (PySem.mem_of_lookup h)))
  · unfold ydI
    show _=N.length
    rw [List.length_append,List.length_map,List.length_replicate]
    lia
theorem zhi {CX:CXT} {P:Program} {w:World} {K:PySem.W.Frag} {mg:Str→Option Value} {base:Heap} {k:Nat} {f:Addr} {name qual:Str} {params:Arguments} {body:List Stmt} {scope:Scope} {dV kV doc pm cdv ct oc:Value} {an od:Option Addr}
    {osl:Array (Option Value)} {N ps:List Str} {sp:Sp} (lk:K.lookup f=some ⟨oc,od,.func (PySem.W.fnOf name qual params body scope dV kV doc pm an cdv ct),osl⟩) (hcd:PySem.W.codeIn K cdv qual=true) (S:yaf N ps scope)
    (len:∀vs H Q E,sp vs H Q E→vs.length=ps.length)
    (hbody:∀(A:Around) (outer:List Env) (s:Shared) (H:Hp) (vs:List V) (Q:VK) (E:XK),Room k (A.deeper (envOfC qual scope s.heap.objs.size f cdv))→sp vs H Q E→
      ∃t,PSs (cxOf CX P w K mg base N qual scope f cdv A outer s H E) body t∧t { nx:=fun _ H'=>Q .non H',rt:=Q } (ydI N vs) H) :
    FnOk P w K mg base CX (k+1) f (PySem.W.fnOf name qual params body scope dV kV doc pm an cdv ct) ps sp:=by
  refine ⟨len,fun A outer s H args us vs Q E hr e0 hb r hsp=>?_⟩
  have hl:=len _ _ _ _ hsp
  have KX:K.In s.heap:=e0.mod.kin.keeps fun b o e=>(e0.bs b o e).1
  have lim:s.heap.NoLimit:=e0.mod.nolimit.keeps fun b o e=>(e0.bs b o e).1
  have hkind:∀y∈ps.zip us,scope.names.lookup y.1=some .local∨(scope.names.lookup y.1=some .cell∧((cellsFrom (s.heap.objs.size+1) scope.names []).lookup y.1).isSome=true):=fun ⟨n,v⟩ hy=>by
    rcases S.par n (List.of_mem_zip hy).1 with q|q
    · exact .inl q
    · exact .inr ⟨q,PySem.W.cellsFrom_some _ _ _ (.inl q)⟩
  refine codeAny_call_function hr.depth (KX _ _ lk) rfl S.co S.gen rfl (PySem.W.codeRec_of KX hcd) (hb _ _ _ _ ?_)
  refine wpAny_newFunctionEnv_cells S.kind hkind fun env he s1 x=>?_
  subst he
  refine ⟨lim.keeps x.toInCall.keep,codeAny_func ?_⟩
  obtain ⟨t,ht,hq⟩:=hbody A outer s H vs Q E (hr.deeper _) hsp
  have I:Inv (cxOf CX P w K mg base N qual scope f cdv A outer s H E) [] (ydI N vs) H s1:=zfi S hr.hd e0 hl r x
  refine wpAny_mono (ht [] s1 (ydI N vs) H _ I hq) (fun fl s' hs=>?_) fun e s' hs=>hs
  have fin:∀ {σ':St} {H':Hp} {v:V} {u:Value},Inv (cxOf CX P w K mg base N qual scope f cdv A outer s H E) [] σ' H' s'→RelV v u→Q v H'→CE outer P w H s Q u s' :=
    fun {σ' H' v u} J rv q=>⟨v,H',J.os,J.bare,J.base,J.hok,rv,q⟩
  cases fl with
  | ret u =>
    obtain ⟨v,σ',H',J,rv,q⟩:=hs
    exact fin J rv q
  | next =>
    obtain ⟨σ',H',J,q⟩:=hs
    exact fin (v:=V.non) (u:=Value.none) J rfl q
  | brk =>
    obtain ⟨_,_,_,q⟩:=hs
    exact False.elim q
  | cont =>
    obtain ⟨_,_,_,q⟩:=hs
    exact False.elim q
end L2
namespace L2
open PySem PySem.Spec PyProof.Rows
section
variable {X:Cx} {x:Str} {p pos:Pos} {e:Expr} {es:List Expr} {t:TA} {id T:String} {r:List V→Hp→VK→Prop}
def tCB (r:List V→Hp→VK→Prop) (t:TA):TE:=fun σ H Q=>t σ H fun vs H1=>r vs H1 Q
theorem yfA (hc:zaY X (.builtin id) r) (hg:Gl X x) (hm:X.mg x=none) (hv:bootBuiltins x=some (.builtin id)) (ha:PA X (e::es) t) (hn:x≠"__name__":=by decide) (hdb:(x==("__debug__":Str))=false:=by decide)
    (he:starEach (e::es) X.env=(false,eval e X.env)::starEach es X.env:=by rfl) (hpl:(backTo pos (starEach es X.env)).any (·.1)=false:=by rfl):PE X (.Call (.Name x p) (e::es) [] pos) (tCB r t):=by
  intro pins s σ H Q I h
  refine wpAny_Call_Name_kw (zbk I hg hm hv ?_ hn hdb)
  exact PyProof.Rows.callWith_builtin1 (thn (ha pos pins s σ H _ I h) fun us s1 ⟨vs,H1,I1,r1,q1⟩=>hc pins s1 σ H1 vs us Q I1 r1 q1) he hpl
theorem zff (hc:zaY X (.type T) r) (hg:Gl X x) (hm:X.mg x=none) (hv:bootBuiltins x=some (.type T)) (ha:PA X (e::es) t) (hn:x≠"__name__":=by decide) (hdb:(x==("__debug__":Str))=false:=by decide)
    (he:starEach (e::es) X.env=(false,eval e X.env)::starEach es X.env:=by rfl) (hpl:(backTo pos (starEach es X.env)).any (·.1)=false:=by rfl):PE X (.Call (.Name x p) (e::es) [] pos) (tCB r t):=by
  intro pins s σ H Q I h
  refine wpAny_Call_Name_kw (zbk I hg hm hv ?_ hn hdb)
  exact PyProof.Rows.callWith_type1 (thn (ha pos pins s σ H _ I h) fun us s1 ⟨vs,H1,I1,r1,q1⟩=>hc pins s1 σ H1 vs us Q I1 r1 q1) he hpl
end
end L2
namespace HT
open PySem PyProof.Rows
section
variable {prog:Program} {w:World} {A:Around} {E:Value→Shared→Prop} {s:Shared}
theorem cat_tup {Q:Value→Shared→Prop} (ht:IsTup s.heap t vs.toArray) (hb:IsTup s.heap b ws.toArray) (hv:vs≠[])
    (h1:ws=[]→Q (.ref t) s) (h2:ws≠[]→Q (.ref s.heap.objs.size) { s with heap:=s.heap.push { cls:=.type "tuple",data:=.seq (vs++ws).toArray } })
    (hsz:vs.length+ws.length≤sizeLine):wpAny (model prog w) A (binaryOp .Add (.ref t) (.ref b)) Q E s:=by
  obtain ⟨⟨cls,dd,data,sl⟩,ho,hc,n,hd⟩:=id ht
  obtain ⟨⟨cls2,dd2,data2,sl2⟩,ho2,hc2,n2,hd2⟩:=id hb
  simp only at hc hd hc2 hd2
  subst hc hd hc2 hd2
  have e:vs.toArray++ws.toArray=(vs++ws).toArray:=by simp
  by_cases hw:ws=[]
  · exact concat_meets ⟨_,ho,rfl⟩ ⟨_,ho2,rfl⟩ noFill_tuple_add seq_tuple_add PySem.F.slot_tuple_add PySem.F.entry_tuple_add (PySem.F.args_tuple_add_2 _ _)
      (tuple_addW1 t b vs.toArray ws.toArray n n2 dd dd2 sl sl2 (by simpa using hv) (by simp [hw])) ⟨ho,ho2,h1 hw⟩
  · refine concat_meets ⟨_,ho,rfl⟩ ⟨_,ho2,rfl⟩ noFill_tuple_add seq_tuple_add PySem.F.slot_tuple_add PySem.F.entry_tuple_add (PySem.F.args_tuple_add_2 _ _)
      (tuple_addW2 t b vs.toArray ws.toArray n n2 dd dd2 sl sl2 (by simpa using hv) (by simpa using hw) (by rw [List.size_toArray,List.size_toArray];exact hsz)) ⟨ho,ho2,?_⟩
    rw [e]
    exact h2 hw
def sIx (n d:Nat):Option Int→Nat
  | none=>d
  | some v=>if v<0 then (v+(n:Int)).toNat else min v.toNat n
theorem sIx_none (n d:Nat):sIx n d none=d:=rfl
theorem sIx_nat (n d k:Nat):sIx n d (some (k:Int))=min k n:=by
  show (if (k:Int)<0 then ((k:Int)+(n:Int)).toNat else min (k:Int).toNat n)=min k n
  rw [if_neg (by lia),Int.toNat_natCast]
theorem ygL (n d:Nat) (hd:d≤n) (o:Option Int):sIx n d o≤n:=by
  cases o with
  | none=>exact hd
  | some v =>
    show (if v<0 then (v+(n:Int)).toNat else min v.toNat n)≤n
    by_cases hv:v<0
    · rw [if_pos hv];lia
    · rw [if_neg hv];exact Nat.min_le_right _ _
theorem yeG (v:Int) (n d:Nat):(if v<0 then max (v+(n:Int)) 0 else min v (n:Int))=((sIx n d (some v):Nat):Int):=by
  show (if v<0 then max (v+(n:Int)) 0 else min v (n:Int))=(((if v<0 then (v+(n:Int)).toNat else min v.toNat n):Nat):Int)
  by_cases hv:v<0
  · simp only [if_pos hv];lia
  · simp only [if_neg hv];lia
theorem zeu (lo hi:Option Int) (n:Nat):Builtin.Slice.sliceAdjust lo hi 1 (n:Int)=(((sIx n 0 lo:Nat):Int),((sIx n n hi:Nat):Int)):=by
  have h1:¬ ((1:Int)<0):=by lia
  unfold Builtin.Slice.sliceAdjust
  simp only [h1,if_false]
  refine Prod.ext ?_ ?_
  · cases lo with
    | none=>rfl
    | some v=>exact yeG v n 0
  · cases hi with
    | none=>rfl
    | some v=>exact yeG v n n
theorem yeq (i j:Nat):Builtin.Slice.slicePlaces (i:Int) (j:Int) 1=j-i:=by
  unfold Builtin.Slice.slicePlaces
  have h1:(1:Int)>0:=by lia
  simp only [h1,if_true,Int.ediv_one]
  split <;> lia
theorem zbZ {o:Option Int} {Q:Option Int→Shared→Prop} (p:IsPart v o) (h:Q o s):wpAny (model prog w) A (Builtin.Slice.slicePartIndex v) Q E s:=by
  cases p with
  | none=>exact slicePart_none h
  | int i t=>exact slicePart_int h
theorem ybj {lo hi:Option Int} {n:Nat} {Q:Int×Int×Nat→Shared→Prop} (hs:s.heap.IsSliceOf sl vl vu .none) (pl:IsPart vl lo) (pu:IsPart vu hi)
    (h:Q (((sIx n 0 lo:Nat):Int),1,sIx n n hi-sIx n 0 lo) s):wpAny (model prog w) A (Builtin.Slice.sliceApplied (.ref sl) (pure (n:Int))) Q E s:=by
  obtain ⟨os,hos,hcs,hds⟩:=id hs
  unfold Builtin.Slice.sliceApplied Builtin.Slice.sliceFields
  refine wpAny_bind (wpAny_bind (wpAny_field hos hds (x:=vl) rfl (wpAny_bind (wpAny_field hos hds (x:=vu) rfl (wpAny_bind (wpAny_field hos hds (x:=.none) rfl (wpAny_pure ?_)))))))
  refine wpAny_bind (slicePart_none ?_)
  show wpAny _ _ (if ((1:Int)==0)=true then _ else _) _ _ s
  rw [if_neg (by decide)]
  refine wpAny_bind (zbZ pl (wpAny_bind (zbZ pu (wpAny_bind (wpAny_pure ?_)))))
  show wpAny _ _ (match Builtin.Slice.sliceAdjust lo hi 1 (n:Int) with|(lo,hi)=>pure (lo,(1:Int),Builtin.Slice.slicePlaces lo hi 1)) _ _ s
  rw [zeu lo hi n]
  show wpAny _ _ (pure (((sIx n 0 lo:Nat):Int),(1:Int),Builtin.Slice.slicePlaces ((sIx n 0 lo:Nat):Int) ((sIx n n hi:Nat):Int) 1)) _ _ s
  rw [yeq]
  exact wpAny_pure h
theorem yfI (xs:Array Value) (i k:Nat):((List.range k).filterMap fun (m:Nat)=>xs[((i:Int)+(m:Int)*1).toNat]?).toArray=((xs.toList.drop i).take k).toArray:=by
  have e:(fun (m:Nat)=>xs[((i:Int)+(m:Int)*1).toNat]?)=fun m=>xs[i+m]?:=by
    funext m
    have:((i:Int)+(m:Int)*1).toNat=i+m:=by lia
    rw [this]
  rw [e]
  have:=pick_run xs i k
  rw [List.filterMap_map] at this
  have e2:((fun x=>xs[x]?) ∘ fun x=>i+x)=fun m=>xs[i+m]?:=rfl
  rw [e2] at this
  rw [this]
theorem getItem_tuple_cut {lo hi:Option Int} {Q:Value→Shared→Prop} (ht:IsTup s.heap t items) (hs:s.heap.IsSliceOf sl vl vu .none) (pl:IsPart vl lo) (pu:IsPart vu hi)
    (hw:¬ (sIx items.size 0 lo=0∧sIx items.size items.size hi=items.size))
    (h:Q (.ref s.heap.objs.size) { s with heap:=s.heap.push { cls:=.type "tuple",data:=.seq ((items.toList.drop (sIx items.size 0 lo)).take (sIx items.size items.size hi-sIx items.size 0 lo)).toArray } })
    (hsz:items.size≤sizeLine):wpAny (model prog w) A (getItem (.ref t) (.ref sl)) Q E s:=by
  have htake:sizeOk (.seq ((items.toList.drop (sIx items.size 0 lo)).take (sIx items.size items.size hi-sIx items.size 0 lo)).toArray):=by
    show ((items.toList.drop (sIx items.size 0 lo)).take (sIx items.size items.size hi-sIx items.size 0 lo)).toArray.size≤sizeLine
    rw [List.size_toArray,List.length_take,List.length_drop,Array.length_toList]
    lia
  have hj:sIx items.size items.size hi≤items.size:=ygL _ _ (Nat.le_refl _) hi
  obtain ⟨os,hos,hcs,hds⟩:=id hs
  have hTs:s.TypeIs (.ref sl) "slice":=⟨os,hos,hcs⟩
  unfold getItem
  try with_reducible refine wpAny_holding ?_
  first|refine wpAny_bind (wpAny_pure ?_)|skip
  refine wpAny_bind (wpAny_sequenceKey ht.typeIs (by decide) ?_)
  refine wpAny_bind (wpAny_callSpecial?_slot (name:=Str.ofString "__getitem__") ht.typeIs PyProof.Rows.slot_tuple_getitem
    (wpAny_call_entry PyProof.Rows.slot_tuple_getitem ht.typeIs entry_tuple_getitem ?_ (args_tuple_getitem _ _)))
  show wpAny _ _ (Builtin.Tuple.tupleItemsOf (.ref t) >>= _) _ _ s
  refine wpAny_bind (tupleItemsOf_ ht ?_)
  refine wpAny_bind (wpAny_typeOf hTs ?_)
  rw [if_pos (by decide)]
  refine wpAny_bind (ybj hs pl pu ?_)
  have hno:¬ ((((sIx items.size 0 lo:Nat):Int)==0&&(1:Int)==1&&(sIx items.size items.size hi-sIx items.size 0 lo)==items.size)=true):=by
    intro q
    rw [Bool.and_eq_true,Bool.and_eq_true] at q
    have q1:((sIx items.size 0 lo:Nat):Int)=0:=eq_of_beq q.1.1
    have q2:sIx items.size items.size hi-sIx items.size 0 lo=items.size:=eq_of_beq q.2
    exact hw ⟨by lia,by lia⟩
  show wpAny _ _ (if (((sIx items.size 0 lo:Nat):Int)==0&&(1:Int)==1&&(sIx items.size items.size hi-sIx items.size 0 lo)==items.size)=true then _ else _) _ _ s
  rw [if_neg hno,yfI]
  first
    | exact wpAny_bind (m:=Builtin.Tuple.tupleExact _) (wpAny_newObj_type (wpAny_pure ⟨_,rfl,wpAny_pure h⟩) htake)
    | exact wpAny_bind (m:=Builtin.Tuple.tupleExact _) (wpAny_newObj_type (wpAny_bind (wpAny_pure (wpAny_pure ⟨_,rfl,wpAny_pure h⟩))) htake)
    | exact wpAny_bind (wpAny_bind (m:=Builtin.Tuple.tupleExact _) (wpAny_newObj_type (wpAny_pure (wpAny_pure ⟨_,rfl,wpAny_pure h⟩)) htake))
    | exact wpAny_bind (wpAny_bind (m:=Builtin.Tuple.tupleExact _) (wpAny_newObj_type (wpAny_pure ⟨_,rfl,wpAny_pure h⟩) htake))
end
end HT
namespace L2
open PySem PySem.Spec PyProof.Rows
abbrev TO:=St→Hp→(Option Int→Hp→Prop)→Prop
noncomputable def PO (X:Cx) (e:Option Expr) (t:TO):Prop :=
  ∀(pins:List (Addr×Obj)) (s:Shared) (σ:St) (H:Hp) (Q:Option Int→Hp→Prop),Inv X pins σ H s→t σ H Q→
    wpAny (model X.prog X.w) X.A (evalPart e X.env) (fun u s'=>Ex2 fun o H'=>Inv X pins σ H' s'∧IsPart u o∧Q o H') X.xe s
def yfo:TO:=fun _ H Q=>Q none H
def zhg (t:TE):TO:=fun σ H Q=>t σ H fun x H1=>∃i,x = .int i∧Q (some i) H1
section
variable {X:Cx} {e:Expr} {te:TE} {lo hi:Option Expr} {tl th:TO} {pos p2:Pos}
theorem zaq:PO X none yfo:=by
  intro pins s σ H Q I h
  rw [evalPart_none]
  exact wpAny_pure ⟨none,H,I,.none,h⟩
theorem yam (h:PE X e te):PO X (some e) (zhg te):=by
  intro pins s σ H Q I hw
  rw [evalPart_some]
  refine thn (h pins s σ H _ I hw) fun u s1 hq=>?_
  obtain ⟨x,H1,I1,r1,q1⟩:=hq
  obtain ⟨i,rfl,q⟩:=q1
  obtain ⟨t,rfl⟩:=r1
  exact ⟨some i,H1,I1,.int i t,q⟩
noncomputable def SlR (X:Cx) (r:V→Option Int→Option Int→Hp→VK→Prop):Prop :=
  ∀(pins:List (Addr×Obj)) (s:Shared) (σ:St) (H:Hp) (x:V) (v vl vu:Value) (lo hi:Option Int) (sl:Addr) (Q:VK),Inv X pins σ H s→RelV x v→s.heap.IsSliceOf sl vl vu .none→IsPart vl lo→IsPart vu hi→r x lo hi H Q→
    Ex2 fun T id=>typeLookup (.type T) "__getitem__"=pure (some (.builtin id))∧s.TypeIs v T∧wpAny (model X.prog X.w) X.A (getItem v (.ref sl)) (EP X pins σ Q) X.xe s
noncomputable def tSl (r:V→Option Int→Option Int→Hp→VK→Prop) (te:TE) (tl th:TO):TE:=fun σ H Q=>te σ H fun x H1=>tl σ H1 fun l H2=>th σ H2 fun u H3=>r x l u H3 Q
theorem yak {r:V→Option Int→Option Int→Hp→VK→Prop} (hr:SlR X r) (he:PE X e te) (hl:PO X lo tl) (hu:PO X hi th):PE X (.Subscript e (.Slice lo hi none p2) pos) (tSl r te tl th):=by
  intro pins s σ H Q I h
  refine Subscript_ (thn (he pins s σ H _ I h) fun v s1 hq=>?_)
  obtain ⟨x,H1,I1,r1,q1⟩:=hq
  refine wpAny_Slice (thn (hl pins s1 σ H1 _ I1 q1) fun vl s2 ⟨l,H2,I2,pl,q2⟩=>thn (hu pins s2 σ H2 _ I2 q2) fun vu s3 hq=>?_)
  obtain ⟨u,H3,I3,pu,q3⟩:=hq
  rw [evalPart_none]
  refine wpAny_pure ?_
  have I4:Inv X pins σ H3 { s3 with heap:=s3.heap.push { cls:=.type "slice",data:=.fields #[vl,vu,.none] } }:=I3.kept (t':=s3.toks) fun b ob q=>Heap.get?_push_of_some _ q
  obtain ⟨T,id,hT,ht,hg⟩:=hr pins { s3 with heap:=s3.heap.push { cls:=.type "slice",data:=.fields #[vl,vu,.none] } } σ H3 x v vl vu l u s3.heap.objs.size Q I4 r1 (Heap.IsSliceOf.new ..) pl pu q3
  show wpAny (model X.prog X.w) X.A (subscriptTail e (.Slice lo hi none p2) v (.ref s3.heap.objs.size)) (EP X pins σ Q) X.xe { s3 with heap:=s3.heap.push { cls:=.type "slice",data:=.fields #[vl,vu,.none] } }
  exact tail_any (ops:=[.ref s3.heap.objs.size,v]) ht hT hg (by with_unfolding_all rfl)
noncomputable def cutV (xs:List V) (lo hi:Option Int):List V:=(xs.drop (HT.sIx xs.length 0 lo)).take (HT.sIx xs.length xs.length hi-HT.sIx xs.length 0 lo)
theorem zaX (xs:List V) (lo hi:Option Int):(cutV xs lo hi).length≤xs.length:=by
  unfold cutV
  rw [List.length_take,List.length_drop]
  lia
noncomputable def rSlT (K:PySem.W.Frag):V→Option Int→Option Int→Hp→VK→Prop:=fun x lo hi H Q=>Ex2 fun a xs=>x = .ref a∧SqT K H a xs∧
  ¬ (HT.sIx xs.length 0 lo=0∧HT.sIx xs.length xs.length hi=xs.length)∧∀p,H p=none→Q (.ref p) (upd H p (.tup (cutV xs lo hi)))
theorem zgL:SlR X (rSlT X.K):=by
  intro pins s σ H x v vl vu lo hi sl Q I rx hs pl pu h
  obtain ⟨a,xs,rfl,hx,hw,q⟩:=h
  cases rx
  obtain ⟨its,r,ht,hz⟩:=I.tuple hx
  have hlen:its.toArray.size=xs.length:=by rw [List.size_toArray];exact r.length.symm
  refine ⟨"tuple",_,PyProof.Rows.slot_tuple_getitem.lookup,ht.typeIs,?_⟩
  refine HT.getItem_tuple_cut ht hs pl pu (by rw [hlen];exact hw) ?_ (by rw [hlen];exact hz)
  rw [hlen]
  refine ⟨.ref s.heap.objs.size,_,I.laid (t':=s.toks) (o:=.tup (cutV xs lo hi)) (fun b ob q=>Heap.get?_push_of_some _ q) (Nat.le_refl _) ?_,rfl,q _ (I.hok.fresh (Nat.le_refl _))⟩
  exact ⟨Nat.le_trans (zaX xs lo hi) hz,_,(r.drop (HT.sIx xs.length 0 lo)).take (HT.sIx xs.length xs.length hi-HT.sIx xs.length 0 lo),IsTup.new _ _⟩
noncomputable def yhl (K:PySem.W.Frag):R2:=fun x y H Q=>Ex4 fun a b xs ys=>x = .ref a∧y = .ref b∧SqT K H a xs∧SqT K H b ys∧xs≠[]∧xs.length+ys.length≤sizeLine∧
  (ys=[]→Q (.ref a) H)∧(ys≠[]→∀p,H p=none→Q (.ref p) (upd H p (.tup (xs++ys))))
theorem Vals.nil_iff (r:Vals xs us):us=[]↔xs=[]:=by
  cases r with
  | nil=>simp
  | cons _ _=>simp
theorem zgC:OpR X (binaryOp .Add) (yhl X.K):=by
  intro pins s σ H x y v u Q I rx ry h
  obtain ⟨a,b,xs,ys,rfl,rfl,ha,hb,hx,hz,q1,q2⟩:=h
  cases rx
  cases ry
  obtain ⟨its,r1,p1,_⟩:=I.tuple ha
  obtain ⟨its2,r2,p2,_⟩:=I.tuple hb
  refine HT.cat_tup p1 p2 (fun z=>hx (r1.nil_iff.mp z)) (fun z=>⟨.ref a,H,I,rfl,q1 (r2.nil_iff.mp z)⟩) (fun z=>?_) (by rw [←r1.length,←r2.length];exact hz)
  refine ⟨.ref s.heap.objs.size,_,I.laid (t':=s.toks) (o:=.tup (xs++ys)) (fun b ob q=>Heap.get?_push_of_some _ q) (Nat.le_refl _) ?_,rfl,q2 (fun w=>z (r2.nil_iff.mpr w)) _ (I.hok.fresh (Nat.le_refl _))⟩
  exact ⟨by rw [List.length_append];exact hz,_,r1.append r2,IsTup.new _ _⟩
end
end L2
namespace L2
open PySem PySem.Spec PyProof.Rows
noncomputable def ixN (n:Nat) (i:Int):Option Nat:=if 0≤i then (if i<n then some i.toNat else none) else if -(n:Int)≤i then some (i+n).toNat else none
def atI {α:Type} (xs:List α) (i:Int):Option α:=(ixN xs.length i).bind fun j=>xs[j]?
theorem ydZ {n:Nat} {i:Int} {j:Nat} (h:ixN n i=some j):seqIndex? i n=some j∧j<n∧-(n:Int)≤i∧i<n:=by
  unfold ixN at h
  by_cases h0:0≤i
  · rw [if_pos h0] at h
    by_cases h1:i<n
    · rw [if_pos h1] at h
      have e:i.toNat=j:=Option.some.inj h
      exact ⟨by rw [seqIndex_of h0 h1,e],by lia,by lia,h1⟩
    · rw [if_neg h1] at h;cases h
  · rw [if_neg h0] at h
    by_cases h1 : -(n:Int)≤i
    · rw [if_pos h1] at h
      have e:(i+n).toNat=j:=Option.some.inj h
      exact ⟨by rw [seqIndex_neg (by lia) h1,e],by lia,h1,by lia⟩
    · rw [if_neg h1] at h;cases h
theorem yfa {α:Type} {xs:List α} {i:Int} {v:α} (h:atI xs i=some v):∃j,seqIndex? i xs.length=some j∧xs[j]?=some v∧j<xs.length∧-(xs.length:Int)≤i∧i<xs.length:=by
  unfold atI at h
  cases e:ixN xs.length i with
  | none=>rw [e] at h;cases h
  | some j =>
    rw [e] at h
    obtain ⟨h1,h2,h3,h4⟩:=ydZ e
    exact ⟨j,h1,h,h2,h3,h4⟩
theorem zaB {α:Type} {xs:List α} {j:Nat} {v:α} (h:xs[j]?=some v):atI xs (j:Int)=some v:=by
  have hj:j<xs.length:=(List.getElem?_eq_some_iff.mp h).1
  have e:ixN xs.length (j:Int)=some j:=by
    unfold ixN
    rw [if_pos (by lia),if_pos (by lia)];simp
  unfold atI;rw [e];exact h
def ygm (b:Expr):Prop:=∀o i,subscripted b false o i=operate [o,i] (getItem o i)
noncomputable def IxR (X:Cx) (r:R2):Prop :=
  ∀(value slice:Expr) (pins:List (Addr×Obj)) (s:Shared) (σ:St) (H:Hp) (x y:V) (v u:Value) (Q:VK),Inv X pins σ H s→RelV x v→RelV y u→r x y H Q→
    subscripted slice false v u=operate [v,u] (getItem v u)→wpAny (model X.prog X.w) X.A (subscriptTail value slice v u) (EP X pins σ Q) X.xe s
noncomputable def MtR (X:Cx) (id:String) (r:V→List V→Hp→VK→Prop):Prop :=
  ∀(pins:List (Addr×Obj)) (s:Shared) (σ:St) (H:Hp) (x:V) (xs:List V) (v:Value) (us:List Value) (Q:VK),Inv X pins σ H s→RelV x v→Vals xs us→r x xs H Q→
    wpAny (model X.prog X.w) X.A (call (.builtin id) (v::us)) (EP X pins σ Q) X.xe s
section
variable {X:Cx} {a b:Expr} {ta tb:TE} {pos:Pos}
theorem zhs {r:R2} (hr:IxR X r) (ha:PE X a ta) (hb:PE X b tb) (hs:ygm b):PE X (.Subscript a b pos) (tOp r ta tb):=by
  intro pins s σ H Q I h
  exact Subscript_ (binT ha hb I h fun v u s2 x y H2 I2 rx ry q=>hr a b pins s2 σ H2 x y v u Q I2 rx ry q (hs _ _))
inductive GIxL (K:PySem.W.Frag) (x y:V) (H:Hp) (Q:VK):Prop
  | mk (p:Addr) (xs:List V) (i:Int) (v:V) (a:x = .ref p) (b:y = .int i) (c:SqL K H p xs) (d:atI xs i=some v) (q:Q v H):GIxL K x y H Q
def rIxL (K:PySem.W.Frag):R2:=fun x y H Q=>GIxL K x y H Q
inductive GIxT (K:PySem.W.Frag) (x y:V) (H:Hp) (Q:VK):Prop
  | mk (p:Addr) (xs:List V) (i:Int) (v:V) (a:x = .ref p) (b:y = .int i) (c:SqT K H p xs) (d:atI xs i=some v) (q:Q v H):GIxT K x y H Q
def rIxT (K:PySem.W.Frag):R2:=fun x y H Q=>GIxT K x y H Q
theorem zai:IxR X (rIxL X.K):=by
  intro value slice pins s σ H x y v u Q I rx ry h hs
  obtain ⟨p,xs,i,z,rfl,rfl,hq,he,q⟩:=h
  cases rx
  obtain ⟨t,rfl⟩:=ry
  obtain ⟨its,r,pl,hz⟩:=I.list hq
  obtain ⟨j,h1,h2,h3,h4,h5⟩:=yfa he
  obtain ⟨w,ew,rw'⟩:=r.get h2
  have hl:=r.length
  have hn:=zej
  have fin:EP X pins σ Q w s:=⟨z,H,I,rw',q⟩
  by_cases h0:0≤i
  · have hj:i.toNat=j:=by
      rw [seqIndex_of h0 h5] at h1
      exact Option.some.inj h1
    exact item_listR pl.isList h0 (by lia) (by rw [hj];simpa using ew) fin hs
  · have hj:(i+(its.toArray.size:Int)).toNat=j:=by
      rw [seqIndex_neg (by lia) h4] at h1
      rw [List.size_toArray,←hl]
      exact Option.some.inj h1
    exact subscriptTail_builtinR (x:=w) pl.isList.typeIs slot_list_getitem.lookup
      (wpAny_getItem_list_neg (Q:=fun r s'=>r=w∧EP X pins σ Q r s') pl.isList (by lia) (by rw [List.size_toArray] <;> lia) (by lia) (by rw [hj];simpa using ew) ⟨rfl,fin⟩) hs
theorem zao:IxR X (rIxT X.K):=by
  intro value slice pins s σ H x y v u Q I rx ry h hs
  obtain ⟨p,xs,i,z,rfl,rfl,hq,he,q⟩:=h
  cases rx
  obtain ⟨t,rfl⟩:=ry
  obtain ⟨its,r,pl,hz⟩:=I.tuple hq
  obtain ⟨j,h1,h2,h3,h4,h5⟩:=yfa he
  obtain ⟨w,ew,rw'⟩:=r.get h2
  have hl:=r.length
  have hn:=zej
  have fin:EP X pins σ Q w s:=⟨z,H,I,rw',q⟩
  exact subscriptTail_builtinR (x:=w) pl.typeIs slot_tuple_getitem.lookup
    (getItem_tuple (j:=j) (Q:=fun r s'=>r=w∧EP X pins σ Q r s') pl (by lia) (by lia) (by rw [List.size_toArray,←hl];exact h1) (by simpa using ew) ⟨rfl,fin⟩) hs
theorem zer (its:List Value) (n j:Nat) (u:Value):Obj.mapSeq (·.setIfInBounds j u) { cls:=.type "list",data:=.seq its.toArray n }={ cls:=.type "list",data:=.seq (its.set j u).toArray n }:=by
  simp [Obj.mapSeq]
theorem Inv.lst (I:Inv X pins σ H s) (h:H p=some (.lst xs)) :
    Ex2 fun (its:List Value) (n:Nat)=>Vals xs its∧s.heap.get? p=some { cls:=.type "list",data:=.seq its.toArray n }∧xs.length≤sizeLine:=by
  obtain ⟨z,its,n,r,e⟩:=I.hok p _ h
  exact ⟨its,n,r,e,z⟩
theorem Inv.lstUpd {pins:List (Addr×Obj)} {σ:St} {H:Hp} {s:Shared} {p:Addr} {xs ys:List V} {its its':List Value} {n n':Nat} {f:Obj→Obj} (I:Inv X pins σ H s) (h:H p=some (.lst xs))
    (ho:s.heap.get? p=some { cls:=.type "list",data:=.seq its.toArray n }) (hf:f { cls:=.type "list",data:=.seq its.toArray n }={ cls:=.type "list",data:=.seq its'.toArray n' }) (r:Vals ys its') (hz:ys.length≤sizeLine) (t:Nat) :
    Inv X pins σ (upd H p (.lst ys)) { s with heap:=s.heap.update p f,toks:=t }:=by
  have e:(s.heap.update p f).get? p=some { cls:=.type "list",data:=.seq its'.toArray n' }:=by
    rw [Heap.get?_update_self f ho (by rw [hf] <;> rfl),hf]
  refine I.write (x:=p) (e:=p) (by rw [h];trivial) (.inl rfl) (fun b u hb q=>(Heap.get?_update_other _ _ (Ne.symm hb)).trans q) ⟨_,e⟩ ?_
  exact ⟨hz,its',n',r,e⟩
noncomputable def zhl:V→V→V→Hp→(Hp→Prop)→Prop:=fun o i v H Q=>Ex4 fun p xs k j=>o = .ref p∧i = .int k∧H p=some (.lst xs)∧ixN xs.length k=some j∧Q (upd H p (.lst (xs.set j v)))
theorem zce:PSet X zhl:=by
  intro pins s σ H o i v ov iv u Q I ro ri rv h
  obtain ⟨p,xs,k,j,rfl,rfl,hp,hj,q⟩:=h
  cases ro
  obtain ⟨t,rfl⟩:=ri
  obtain ⟨its,n,r,ho,hz⟩:=I.lst hp
  obtain ⟨h1,h2,h3,h4⟩:=ydZ hj
  have hl:=r.length
  have hn:=zej
  have I':Inv X pins σ (upd H p (.lst (xs.set j v))) { s with heap:=s.heap.update p (Obj.mapSeq (·.setIfInBounds j u)) } :=
    I.lstUpd hp ho (zer its n j u) (r.set rv j) (by rw [List.length_set];exact hz) s.toks
  by_cases h0:0≤k
  · have hk:k.toNat=j:=by
      rw [seqIndex_of h0 h4] at h1
      exact Option.some.inj h1
    exact PySem.W.ki_setAt ho h0 (by lia) (by rw [List.size_toArray,←hl];exact h4) (by rw [hk];exact ⟨_,I',q⟩)
  · have hk:(k+(its.toArray.size:Int)).toNat=j:=by
      rw [seqIndex_neg (by lia) h3] at h1
      rw [List.size_toArray,←hl]
      exact Option.some.inj h1
    exact PySem.W.ki_setBack ho (by lia) (by rw [List.size_toArray,←hl];exact h3) (by lia) (by rw [hk];exact ⟨_,I',q⟩)
theorem ydv (lo hi:Option Int) (n:Nat):(sliceBounds lo hi none n).1=((HT.sIx n 0 lo:Nat):Int)∧(sliceBounds lo hi none n).2.1=((HT.sIx n n hi:Nat):Int)∧(sliceBounds lo hi none n).2.2=1:=by
  refine ⟨?_,?_,rfl⟩
  · cases lo with
    | none=>simp [sliceBounds,HT.sIx]
    | some i =>
      simp only [sliceBounds,HT.sIx,Option.getD_none,show (1:Int)>0 by decide,if_true]
      by_cases h:i<0
      · simp only [h,if_true] <;> lia
      · simp only [h,if_false] <;> lia
  · cases hi with
    | none=>simp [sliceBounds,HT.sIx]
    | some i =>
      simp only [sliceBounds,HT.sIx,Option.getD_none,show (1:Int)>0 by decide,if_true]
      by_cases h:i<0
      · simp only [h,if_true] <;> lia
      · simp only [h,if_false] <;> lia
theorem ydj (its:List Value) (lo hi:Option Int):slicePick its.toArray lo hi none=((its.drop (HT.sIx its.length 0 lo)).take (HT.sIx its.length its.length hi-HT.sIx its.length 0 lo)).toArray:=by
  obtain ⟨h1,h2,h3⟩:=ydv lo hi its.toArray.size
  unfold slicePick
  rw [h1,h2,h3]
  simp only [sliceRange_one,pick_run,List.size_toArray] <;> rfl
noncomputable def rSlL (K:PySem.W.Frag):V→Option Int→Option Int→Hp→VK→Prop:=fun x lo hi H Q=>Ex2 fun a xs=>x = .ref a∧SqL K H a xs∧∀p,H p=none→Q (.ref p) (upd H p (.lst (cutV xs lo hi)))
theorem yff:SlR X (rSlL X.K):=by
  intro pins s σ H x v vl vu lo hi sl Q I rx hs pl pu h
  obtain ⟨a,xs,rfl,hx,q⟩:=h
  cases rx
  obtain ⟨its,r,ht,hz⟩:=I.list hx
  have hlen:=r.length
  refine ⟨"list",_,slot_list_getitem.lookup,ht.isList.typeIs,?_⟩
  refine wpAny_getItem_list_slice ht.isList hs pl pu .none (by simp) ?_ (by rw [List.size_toArray] <;> lia)
  rw [ydj,←hlen]
  refine ⟨.ref s.heap.objs.size,_,I.laid (t':=s.toks) (o:=.lst (cutV xs lo hi)) (fun b ob q=>Heap.get?_push_of_some _ q) (Nat.le_refl _) ?_,rfl,q _ (I.hok.fresh (Nat.le_refl _))⟩
  exact ⟨Nat.le_trans (zaX xs lo hi) hz,_,0,(r.drop (HT.sIx xs.length 0 lo)).take (HT.sIx xs.length xs.length hi-HT.sIx xs.length 0 lo),Heap.get?_push_size _ rfl⟩
def zde:V→Bool
  | .non=>true
  | .bl _=>true
  | .int _=>true
  | .str _=>true
  | _=>false
noncomputable def eqV:V→V→Bool
  | .non,.non=>true
  | .bl a,.bl b=>a==b
  | .bl a,.int b=>(if a then 1 else 0)==b
  | .int a,.bl b=>a==(if b then 1 else 0)
  | .int a,.int b=>a==b
  | .str a,.str b=>a==b
  | _,_=>false
theorem zgX (ry:RelV y u) (rx:RelV x v) (fy:zde y=true) (fx:zde x=true):SeqAt.EqAt A s u v (eqV y x):=by
  cases y with
  | non =>
    cases ry
    cases x with
    | non=>cases rx;exact SeqAt.EqAt.same _
    | bl b=>cases rx;exact SeqAt.EqAt.none_bool b
    | int b=>obtain ⟨t,rfl⟩:=rx;exact SeqAt.EqAt.none_int b t
    | str b=>obtain ⟨t,rfl⟩:=rx;exact SeqAt.EqAt.none_str b t
    | _=>exact absurd (show false=true from fx) Bool.false_ne_true
  | bl a =>
    cases ry
    cases x with
    | non=>cases rx;exact SeqAt.EqAt.bool_none a
    | bl b=>cases rx;exact SeqAt.EqAt.bool_bool a b
    | int b=>obtain ⟨t,rfl⟩:=rx;exact SeqAt.EqAt.bool_int a b t
    | str b=>obtain ⟨t,rfl⟩:=rx;exact SeqAt.EqAt.bool_str a b t
    | _=>exact absurd (show false=true from fx) Bool.false_ne_true
  | int a =>
    obtain ⟨t',rfl⟩:=ry
    cases x with
    | non=>cases rx;exact SeqAt.EqAt.int_none a t'
    | bl b=>cases rx;exact SeqAt.EqAt.int_bool a t' b
    | int b=>obtain ⟨t,rfl⟩:=rx;exact SeqAt.EqAt.int_int a t' b t
    | str b=>obtain ⟨t,rfl⟩:=rx;exact SeqAt.EqAt.int_str a t' b t
    | _=>exact absurd (show false=true from fx) Bool.false_ne_true
  | str a =>
    obtain ⟨t',rfl⟩:=ry
    cases x with
    | non=>cases rx;exact SeqAt.EqAt.str_none a t'
    | bl b=>cases rx;exact SeqAt.EqAt.str_bool a t' b
    | int b=>obtain ⟨t,rfl⟩:=rx;exact SeqAt.EqAt.str_int a t' b t
    | str b=>obtain ⟨t,rfl⟩:=rx;exact SeqAt.EqAt.str_str a t' b t
    | _=>exact absurd (show false=true from fx) Bool.false_ne_true
  | _=>exact absurd (show false=true from fy) Bool.false_ne_true
noncomputable def eqU (x:V) (u:Value):Bool:=match u with
  | .none=>eqV .non x
  | .bool b=>eqV (.bl b) x
  | .int i _=>eqV (.int i) x
  | .str z _=>eqV (.str z) x
  | _=>false
theorem yf6 (r:RelV y u) (f:zde y=true):eqU x u=eqV y x:=by
  cases y with
  | non=>cases r;rfl
  | bl b=>cases r;rfl
  | int i=>obtain ⟨t,rfl⟩:=r;rfl
  | str z=>obtain ⟨t,rfl⟩:=r;rfl
  | _=>exact absurd (show false=true from f) Bool.false_ne_true
theorem zdS:∀ {xs:List V} {us:List Value},Vals xs us→xs.all zde=true→us.any (eqU x)=xs.any fun y=>eqV y x
  | _,_,.nil,_=>rfl
  | y::xs,u::us,.cons r t,f=>by
    rw [List.all_cons,Bool.and_eq_true] at f
    rw [List.any_cons,List.any_cons,yf6 r f.1,zdS t f.2]
theorem zdb (rx:RelV x v) (fx:zde x=true):∀ {xs:List V} {us:List Value},Vals xs us→xs.all zde=true→∀u∈us,SeqAt.EqAt A s u v (eqU x u)
  | _,_,.nil,_=>fun u hu=>by cases hu
  | y::xs,u::us,.cons r t,f=>fun u' hu=>by
    rw [List.all_cons,Bool.and_eq_true] at f
    rcases List.mem_cons.mp hu with rfl|hu
    · rw [yf6 r f.1];exact zgX r rx f.1 fx
    · exact zdb rx fx t f.2 u' hu
def inV (x:V) (xs:List V):Bool:=xs.any fun y=>eqV y x
inductive GIn (K:PySem.W.Frag) (neg:Bool) (x y:V) (H:Hp) (Q:VK):Prop
  | mk (p:Addr) (xs:List V) (a:y = .ref p) (b:SqL K H p xs∨SqT K H p xs) (c:zde x=true) (d:xs.all zde=true) (q:Q (.bl (if neg then !inV x xs else inV x xs)) H):GIn K neg x y H Q
def rIn (K:PySem.W.Frag) (neg:Bool):R2:=fun x y H Q=>GIn K neg x y H Q
theorem yfp:OpR X (compareOp .In) (rIn X.K false):=by
  intro pins s σ H x y v u Q I rx ry h
  obtain ⟨p,xs,rfl,hq,fx,fs,q⟩:=h
  cases ry
  rcases hq with hq|hq
  · obtain ⟨its,r,pl,hz⟩:=I.list hq
    refine SeqAt.in_listAt (eqU x) pl.isList (fun w hw=>zdb rx fx r fs w (by simpa using hw)) ⟨.bl _,H,I,rfl,?_⟩
    rw [show its.toArray.any (eqU x)=its.any (eqU x) by simp,zdS r fs]
    exact q
  · obtain ⟨its,r,pl,hz⟩:=I.tuple hq
    refine SeqAt.in_tupleAt (eqU x) pl (fun w hw=>zdb rx fx r fs w (by simpa using hw)) ⟨.bl _,H,I,rfl,?_⟩
    rw [show its.toArray.any (eqU x)=its.any (eqU x) by simp,zdS r fs]
    exact q
inductive GLen (K:PySem.W.Frag) (xs:List V) (H:Hp) (Q:VK):Prop
  | mk (p:Addr) (ys:List V) (e:xs=[.ref p]) (h:SqL K H p ys∨SqT K H p ys) (q:Q (.int ys.length) H):GLen K xs H Q
theorem yah:zaY X (.builtin "len") (fun xs H Q=>GLen X.K xs H Q):=by
  intro pins s σ H xs us Q I r h
  obtain ⟨p,ys,rfl,hq,q⟩:=h
  obtain ⟨u,rfl,rx⟩:=zcH r
  cases rx
  have hn:=zej
  rcases hq with hq|hq
  · obtain ⟨its,r',pl,hz⟩:=I.list hq
    have hlen:=r'.length
    exact Calls.call_len_list pl.isList (by simp only [List.size_toArray] <;> lia) ⟨.int ys.length,H,I.tok _,⟨s.toks+1,by rw [List.size_toArray,hlen]⟩,q⟩
  · obtain ⟨its,r',pl,hz⟩:=I.tuple hq
    have hlen:=r'.length
    exact len_tuple pl (by simp only [List.size_toArray] <;> lia) ⟨.int ys.length,H,I.tok _,⟨s.toks+1,by rw [List.size_toArray,hlen]⟩,q⟩
theorem ybv:zaY X (.type "list") (fun xs H Q=>Ex2 fun p ys=>xs=[.ref p]∧(SqL X.K H p ys∨SqT X.K H p ys)∧∀l,H l=none→Q (.ref l) (upd H l (.lst ys))):=by
  intro pins s σ H xs us Q I r h
  obtain ⟨p,ys,rfl,hq,q⟩:=h
  obtain ⟨u,rfl,rx⟩:=zcH r
  cases rx
  have fin:∀(its:List Value),Vals ys its→ys.length≤sizeLine→∀(h':Heap) (c':Nat),(∀b o',s.heap.get? b=some o'→h'.get? b=some o')→
      h'.get? s.heap.objs.size=some { cls:=.type "list",dict:=none,data:=.seq its.toArray c',slots:=#[] }→EP X pins σ Q (.ref s.heap.objs.size) { s with heap:=h' }:=fun its r' hz h' c' kp e =>
    ⟨.ref s.heap.objs.size,_,I.laid (t':=s.toks) kp (Nat.le_refl _) (show yaZ X.prog X.w _ h' _ (.lst ys) from ⟨hz,its,c',r',e⟩),rfl,q _ (I.hok.fresh (Nat.le_refl _))⟩
  rcases hq with hq|hq
  · obtain ⟨its,r',pl,hz⟩:=I.list hq
    have hlen:=r'.length
    obtain ⟨o,ho,hc,n,hd⟩:=pl.isList
    exact call_list_seq p (.inl rfl) ho hc hd (fun h' c' kp e=>fin its r' hz h' c' kp e) (by simp only [List.size_toArray] <;> lia)
  · obtain ⟨its,r',pl,hz⟩:=I.tuple hq
    have hlen:=r'.length
    obtain ⟨o,ho,hc,n,hd⟩:=pl
    exact call_list_seq p (.inr rfl) ho hc hd (fun h' c' kp e=>fin its r' hz h' c' kp e) (by simp only [List.size_toArray] <;> lia)
theorem ybL:zaY X (.type "tuple") (fun xs H Q=>Ex2 fun p ys=>xs=[.ref p]∧((SqL X.K H p ys∧∀l,H l=none→Q (.ref l) (upd H l (.tup ys)))∨(SqT X.K H p ys∧Q (.ref p) H))):=by
  intro pins s σ H xs us Q I r h
  obtain ⟨p,ys,rfl,h⟩:=h
  obtain ⟨u,rfl,rx⟩:=zcH r
  cases rx
  rcases h with ⟨hq,q⟩ | ⟨hq,q⟩
  · obtain ⟨its,r',pl,hz⟩:=I.list hq
    have hlen:=r'.length
    refine call_tuple_list pl.isList (fun h' kp=>?_) (by simp only [List.size_toArray] <;> lia)
    have I1:Inv X pins σ H { s with heap:=h' }:=I.kept (t':=s.toks) kp
    have I2:Inv X pins σ (upd H h'.objs.size (.tup ys)) { s with heap:=h'.push { cls:=.type "tuple",data:=.seq its.toArray } } :=
      I1.laid (t':=s.toks) (fun b o e=>Heap.get?_push_of_some _ e) (Nat.le_refl _) (show yaZ X.prog X.w _ _ _ (.tup ys) from ⟨hz,its,r',IsTup.new _ _⟩)
    exact ⟨.ref h'.objs.size,_,I2,rfl,q _ (I1.hok.fresh (Nat.le_refl _))⟩
  · obtain ⟨its,r',pl,hz⟩:=I.tuple hq
    exact call_tuple_same pl ⟨.ref p,H,I,rfl,q⟩
noncomputable def tyV (K:PySem.W.Frag) (T:String) (x:V) (H:Hp):Prop:=match x with
  | .str _=>T = "str"
  | .int _=>T = "int"
  | .ref p=>(T = "list"∧∃xs,SqL K H p xs)∨(T = "tuple"∧∃o,K.lookup p=some o∧o.cls = .type "tuple"∧o.dict=none)∨
      (T = "dict"∧((∃kvs,H p=some (.dK kvs))∨∃kvs,H p=some (.dT kvs)))∨(T = "set"∧Ex2 fun S n=>H p=some (.set S n))
  | _=>False
theorem zgF {T:String} (I:Inv X pins σ H s) (r:RelV x v) (ty:tyV X.K T x H) :
    s.TypeIs v T∧∀a,v = .ref a→∃ob,s.heap.get? a=some ob∧ob.dict=none:=by
  cases x with
  | str z =>
    obtain ⟨t,rfl⟩:=r
    cases (show T = "str" from ty)
    exact ⟨typeIs_str s z t,fun _ e=>nomatch e⟩
  | int i =>
    obtain ⟨t,rfl⟩:=r
    cases (show T = "int" from ty)
    exact ⟨typeIs_int s i t,fun _ e=>nomatch e⟩
  | ref p =>
    cases r
    rcases ty with ⟨rfl,xs,hq⟩ | ⟨rfl,o,hk,hc,hd⟩ | ⟨rfl,hk⟩ | ⟨rfl,S,n,hk⟩
    · obtain ⟨its,_,pl,_⟩:=I.list hq
      refine ⟨pl.isList.typeIs,fun a e=>?_⟩
      cases e
      obtain ⟨o,n,e,c,hd,_⟩:=pl
      exact ⟨o,e,hd⟩
    · refine ⟨⟨o,I.kIn p o hk,hc⟩,fun a e=>?_⟩
      cases e
      exact ⟨o,I.kIn _ o hk,hd⟩
    · have z:∃o,s.heap.get? p=some o∧o.ExactDict:=by
        rcases hk with ⟨kvs,hk⟩ | ⟨kvs,hk⟩
        · obtain ⟨_,_,_,_,o,_,_,e,ex,_⟩:=I.hok p _ hk
          exact ⟨o,e,ex⟩
        · obtain ⟨_,_,_,_,o,_,_,e,ex,_⟩:=I.hok p _ hk
          exact ⟨o,e,ex⟩
      obtain ⟨o,e,ex⟩:=z
      refine ⟨⟨o,e,ex.1⟩,fun a e2=>?_⟩
      cases e2
      exact ⟨o,e,ex.2.1⟩
    · obtain ⟨o,_,_,_,e,ex,_⟩:=I.hok p _ hk
      refine ⟨⟨o,e,ex.1⟩,fun a e2=>?_⟩
      cases e2
      exact ⟨o,e,ex.2.1⟩
  | _=>exact False.elim ty
noncomputable def tBM (K:PySem.W.Frag) (T:String) (r:V→List V→Hp→VK→Prop) (to:TE) (t:TA):TE:=fun σ H Q=>to σ H fun x H1=>tyV K T x H1∧t σ H1 fun xs H2=>r x xs H2 Q
variable {o e:Expr} {es:List Expr} {to:TE} {t:TA} {name:Str} {apos cpos:Pos} {T id:String} {r:V→List V→Hp→VK→Prop}
theorem zdw (pa:PlainAttrs T) (slot:Slot T name id) (hty:typeOf (.builtin id)=pure (.type "method_descriptor")) (hm:MtR X id r) (ho:PE X o to) (ha:PA X (e::es) t)
    (hbase:attributeBase o name X.env (eval o X.env)=eval o X.env:=by rfl)
    (hfew:((backTo cpos (starEach (e::es) X.env)).all (fun x=>!x.1)&&(backToKw cpos (keywordEach [] X.env)).all (fun x=>x.1.isSome)
      && decide ((e::es).length+([]:List Keyword).length+(if ([]:List Keyword).isEmpty then 0 else 1)<30))=true:=by rfl)
    (hline:(apos.endLine==cpos.line)=true:=by rfl) (hs:starEach (e::es) X.env=(false,eval e X.env)::starEach es X.env:=by rfl) (hplain:(backTo cpos (starEach es X.env)).any (·.1)=false:=by rfl) :
    PE X (.Call (.Attribute o name apos) (e::es) [] cpos) (tBM X.K T r to t):=by
  intro pins s σ H Q I h
  refine wpAny_Call_method_late hbase hfew hline rfl (thn (ho pins s σ H _ I h) fun v s1 hq=>?_)
  obtain ⟨x,H1,I1,r1,ty,q1⟩:=hq
  obtain ⟨h1,h2⟩:=zgF I1 r1 ty
  refine ⟨T,id,pa,slot,hty,h1,h2,?_⟩
  have hA:=ha cpos pins s1 σ H1 _ I1 q1
  rw [hs] at hA ⊢
  refine Calls.callWith_builtin (by show (false||(backTo cpos (starEach es X.env)).any (·.1))=false;rw [hplain] <;> rfl) (Calls.evalArgs_plain ?_)
  exact thn hA fun us s2 ⟨vs,H2,I2,r2,q2⟩=>hm pins s2 σ H2 x vs v us Q I2 r1 r2 q2
end
end L2
namespace L2
open PySem PySem.Spec PyProof.Rows
noncomputable def MtM (X:Cx) (id:String) (r:V→List V→Hp→VK→Prop):Prop :=
  ∀(pins:List (Addr×Obj)) (s:Shared) (σ:St) (H:Hp) (x:V) (xs:List V) (v:Value) (us:List Value) (Q:VK),Inv X pins σ H s→RelV x v→Vals xs us→r x xs H Q→
    wpAny (model X.prog X.w) X.A (call (.builtin id) (v::us)) (EP X pins σ Q) X.xe s
theorem Vals.one (h:Vals [x] us):∃u,us=[u]∧RelV x u:=by
  cases h with|cons r t=>cases t;exact ⟨_,rfl,r⟩
theorem Vals.zero:∀ {us:List Value},Vals [] us→us=[]
  | _,.nil=>rfl
theorem Vals.dropLast (h:Vals xs us):Vals xs.dropLast us.dropLast:=by
  induction h with
  | nil=>exact .nil
  | cons r t ih =>
    cases t with
    | nil=>exact .nil
    | cons q t'=>exact .cons r ih
theorem Vals.eraseIdx:∀ {xs:List V} {us:List Value} (i:Nat),Vals xs us→Vals (xs.eraseIdx i) (us.eraseIdx i)
  | _,_,_,.nil=>.nil
  | _,_,0,.cons _ t=>t
  | _,_,i+1,.cons r t=>.cons r (Vals.eraseIdx i t)
theorem Vals.reverse (h:Vals xs us):Vals xs.reverse us.reverse:=by
  induction h with
  | nil=>exact .nil
  | cons r t ih=>rw [List.reverse_cons,List.reverse_cons];exact Vals.append ih (.cons r .nil)
theorem Vals.rep (h:Vals xs us):∀k:Nat,Vals (List.replicate k xs).flatten (List.replicate k us).flatten
  | 0=>.nil
  | k+1=>by
    rw [List.replicate_succ,List.replicate_succ,List.flatten_cons,List.flatten_cons]
    exact Vals.append h (Vals.rep h k)
theorem zen {α:Type} (l:List α):l.eraseIdx (l.length-1)=l.dropLast:=by
  induction l with
  | nil=>rfl
  | cons a r ih =>
    cases r with
    | nil=>rfl
    | cons b r =>
      have e:(a::b::r).length-1=((b::r).length-1)+1:=by
        have h1:(a::b::r).length=r.length+2:=rfl
        have h2:(b::r).length=r.length+1:=rfl
        lia
      rw [e,List.eraseIdx_cons_succ,ih]
      all_goals rfl
theorem yds {α:Type}:∀(l:List α) (i:Nat),(l.eraseIdx i).length≤l.length
  | [],_=>Nat.le_refl _
  | _::_,0=>Nat.le_succ _
  | _::r,i+1=>Nat.succ_le_succ (yds r i)
theorem ydE (its:List Value):∀(k:Nat) (acc:List Value),
    List.foldl (fun x1 x2=>x1++x2) acc.toArray (List.replicate k its.toArray)=(acc++(List.replicate k its).flatten).toArray
  | 0,acc=>by simp
  | k+1,acc=>by
    have e:acc.toArray++its.toArray=(acc++its).toArray:=by simp
    have e2:(acc++its)++(List.replicate k its).flatten=acc++(List.replicate (k+1) its).flatten:=by
      rw [List.replicate_succ,List.flatten_cons,List.append_assoc]
    rw [←e2,←ydE its k (acc++its),←e,List.replicate_succ,List.foldl_cons]
section
variable {X:Cx} {pins:List (Addr×Obj)} {σ:St} {H:Hp} {s:Shared} {l b:Addr} {xs ys zs:List V}
theorem Inv.lset {its its':List Value} {n:Nat} {f:Array Value→Array Value} {t':Nat} (I:Inv X pins σ H s) (hH:H l=some (.lst xs))
    (e:s.heap.get? l=some { cls:=.type "list",data:=.seq its.toArray n }) (hf:f its.toArray=its'.toArray) (hv:Vals ys its') (hz:ys.length≤sizeLine) :
    Inv X pins σ (upd H l (.lst ys)) { s with heap:=s.heap.update l (Obj.mapSeq f),toks:=t' }:=by
  have q:=PySem.IsL.update e f
  rw [hf] at q
  refine I.write (x:=l) (e:=l) (by rw [hH];exact trivial) (.inl rfl) (fun b' u hb hu=>(Heap.get?_update_other s.heap (Obj.mapSeq f) (Ne.symm hb)).trans hu) ⟨_,q⟩ ?_
  exact ⟨hz,its',_,hv,q⟩
theorem Inv.lnew {t':Nat} (I:Inv X pins σ H s) (hv:Vals ys its) (hz:ys.length≤sizeLine) :
    Inv X pins σ (upd H s.heap.objs.size (.lst ys)) { s with heap:=s.heap.push { cls:=.type "list",data:=.seq its.toArray },toks:=t' } :=
  I.laid (fun _ _ q=>Heap.get?_push_of_some _ q) (Nat.le_refl _) ⟨hz,its,0,hv,Heap.get?_push_size _ rfl⟩
theorem Inv.fresh (I:Inv X pins σ H s):H s.heap.objs.size=none:=I.hok.fresh (Nat.le_refl _)
theorem Inv.lstM (I:Inv X pins σ H s) (hH:H l=some (.lst xs)):xs.length≤sizeLine∧Ex2 fun (its:List Value) (n:Nat)=>Vals xs its∧xs.length=its.length∧s.heap.get? l=some { cls:=.type "list",data:=.seq its.toArray n }:=by
  obtain ⟨z,its,n,r,e⟩:=I.hok l _ hH
  exact ⟨z,its,n,r,r.length,e⟩
theorem yec {n:Nat} (h:n≤sizeLine):Builtin.List.listTooLong n=false:=by
  unfold Builtin.List.listTooLong
  exact decide_eq_false (by lia)
end
section
variable {X:Cx}
noncomputable def ygB:V→List V→Hp→VK→Prop:=fun x vs H Q=>Ex3 fun l xs y=>x = .ref l∧vs=[y]∧H l=some (.lst xs)∧xs.length<sizeLine∧Q .non (upd H l (.lst (xs++[y])))
theorem yaV:MtM X "list.append" ygB:=by
  intro pins s σ H x vs v us Q I rx rv h
  obtain ⟨l,xs,y,rfl,rfl,hH,hz,q⟩:=h
  cases rx
  obtain ⟨u,rfl,ru⟩:=rv.one
  obtain ⟨z,its,n,r,hl,e⟩:=I.lstM hH
  refine call_meets F.slot_list_append ⟨_,e,rfl⟩ F.entry_list_append (F.args_list_append_2 _ _) (PySem.list_append l its.toArray n u (by rw [List.size_toArray];lia)) ⟨e,?_⟩
  refine ⟨.non,_,I.lset (its':=its++[u]) hH e (by simp) (r.append (.cons ru .nil)) ?_,rfl,q⟩
  rw [List.length_append,List.length_singleton]
  lia
noncomputable def zgu:V→List V→Hp→VK→Prop:=fun x vs H Q=>Ex4 fun l b xs zs=>x = .ref l∧vs=[.ref b]∧H l=some (.lst xs)∧H b=some (.lst zs)∧xs.length+zs.length≤sizeLine∧Q .non (upd H l (.lst (xs++zs)))
theorem zgG:MtM X "list.extend" zgu:=by
  intro pins s σ H x vs v us Q I rx rv h
  obtain ⟨l,b,xs,zs,rfl,rfl,hH,hB,hz,q⟩:=h
  cases rx
  obtain ⟨u,rfl,ru⟩:=rv.one
  cases ru
  obtain ⟨z,its,n,r,hl,e⟩:=I.lstM hH
  obtain ⟨z2,its2,n2,r2,hl2,e2⟩:=I.lstM hB
  have hsz:its.toArray.size+its2.toArray.size≤sizeLine:=by rw [List.size_toArray,List.size_toArray];lia
  have hlong:¬ (!its.toArray.isEmpty&&Builtin.List.listTooLong (its.toArray.size+its2.toArray.size))=true:=by
    rw [yec hsz,Bool.and_false]
    exact Bool.false_ne_true
  refine call_meets F.slot_list_extend ⟨_,e,rfl⟩ F.entry_list_extend (F.args_list_extend_2 _ _)
    (AutoSeq1.list_extend_list_list_0 l its.toArray n b its2.toArray n2 hlong (by rw [List.size_toArray];lia) (by lia)) ⟨e,e2,?_⟩
  refine ⟨.non,_,I.lset (its':=its++its2) hH e (by simp) (r.append r2) ?_,rfl,q⟩
  rw [List.length_append]
  lia
noncomputable def rPop:V→List V→Hp→VK→Prop:=fun x vs H Q=>Ex3 fun l xs y=>x = .ref l∧vs=[]∧H l=some (.lst xs)∧xs[xs.length-1]?=some y∧Q y (upd H l (.lst xs.dropLast))
theorem mt_pop:MtM X "list.pop" rPop:=by
  intro pins s σ H x vs v us Q I rx rv h
  obtain ⟨l,xs,y,rfl,rfl,hH,hy,q⟩:=h
  cases rx
  have hus:=rv.zero
  subst hus
  obtain ⟨z,its,n,r,hl,e⟩:=I.lstM hH
  obtain ⟨u,hu,ru⟩:=r.get hy
  have hy':its.toArray[its.toArray.size-1]?=some u:=by
    show its.toArray[its.length-1]?=some u
    rw [←Array.getElem?_toList,←hl]
    exact hu
  refine call_meets F.slot_list_pop ⟨_,e,rfl⟩ F.entry_list_pop (F.args_list_pop_1 _) (MeetsSeq.list_pop_last l its.toArray n u hy' (by rw [List.size_toArray];lia)) ⟨e,?_⟩
  refine ⟨y,_,I.lset (its':=its.dropLast) hH e ?_ r.dropLast ?_,ru,q⟩
  · show its.toArray.eraseIdxIfInBounds (its.toArray.size-1)=its.dropLast.toArray
    rw [List.size_toArray,List.eraseIdxIfInBounds_toArray,zen]
  · rw [List.length_dropLast]
    lia
noncomputable def zg3:V→List V→Hp→VK→Prop:=fun x vs H Q=>Ex5 fun l xs i k y=>x = .ref l∧vs=[.int i]∧H l=some (.lst xs)∧-(2^63)≤i∧i<2^63∧seqIndex? i xs.length=some k∧xs[k]?=some y∧Q y (upd H l (.lst (xs.eraseIdx k)))
theorem zfT:MtM X "list.pop" zg3:=by
  intro pins s σ H x vs v us Q I rx rv h
  obtain ⟨l,xs,i,k,y,rfl,rfl,hH,h1,h2,hk,hy,q⟩:=h
  cases rx
  obtain ⟨u,rfl,ru⟩:=rv.one
  obtain ⟨t,rfl⟩:=ru
  obtain ⟨z,its,n,r,hl,e⟩:=I.lstM hH
  obtain ⟨w,hw,rw'⟩:=r.get hy
  refine call_meets F.slot_list_pop ⟨_,e,rfl⟩ F.entry_list_pop (F.args_list_pop_2 _ _)
    (MeetsSeq.list_pop_at l its.toArray n i t k w (fitsIndex_both h1 h2) (by rw [List.size_toArray,←hl];exact hk) (by rw [←Array.getElem?_toList];exact hw) (by rw [List.size_toArray];lia)) ⟨e,?_⟩
  refine ⟨y,_,I.lset (its':=its.eraseIdx k) hH e ?_ (r.eraseIdx k) ?_,rw',q⟩
  · show its.toArray.eraseIdxIfInBounds k=(its.eraseIdx k).toArray
    rw [List.eraseIdxIfInBounds_toArray]
  · have:=yds xs k
    lia
noncomputable def rCat:R2:=fun x y H Q=>Ex4 fun l b xs zs=>x = .ref l∧y = .ref b∧H l=some (.lst xs)∧H b=some (.lst zs)∧xs.length+zs.length≤sizeLine∧∀p,H p=none→Q (.ref p) (upd H p (.lst (xs++zs)))
theorem zcR:OpR X (binaryOp .Add) rCat:=by
  intro pins s σ H x y v u Q I rx ry h
  obtain ⟨l,b,xs,zs,rfl,rfl,hH,hB,hz,q⟩:=h
  cases rx
  cases ry
  obtain ⟨z,its,n,r,hl,e⟩:=I.lstM hH
  obtain ⟨z2,its2,n2,r2,hl2,e2⟩:=I.lstM hB
  refine PySem.P.add_list e e2 ?_ (by rw [List.size_toArray,List.size_toArray];lia)
  have ea:its.toArray++its2.toArray=(its++its2).toArray:=by simp
  rw [ea]
  exact ⟨.ref _,_,I.lnew (t':=s.toks) (r.append r2) (by rw [List.length_append];lia),rfl,q _ I.fresh⟩
noncomputable def rRep:R2:=fun x y H Q=>Ex3 fun l k xs=>x = .ref l∧y = .int k∧H l=some (.lst xs)∧-(2^63)≤k∧k<2^63∧xs.length*k.toNat≤sizeLine∧
  ∀p,H p=none→Q (.ref p) (upd H p (.lst (List.replicate k.toNat xs).flatten))
theorem ygo {α:Type} (xs:List α) (k:Nat):(List.replicate k xs).flatten.length=k*xs.length:=by
  induction k with
  | zero=>simp
  | succ k ih=>rw [List.replicate_succ,List.flatten_cons,List.length_append,ih,Nat.succ_mul,Nat.add_comm]
theorem zgU:OpR X (binaryOp .Mult) rRep:=by
  intro pins s σ H x y v u Q I rx ry h
  obtain ⟨l,k,xs,rfl,rfl,hH,h1,h2,hz,q⟩:=h
  cases rx
  obtain ⟨t,rfl⟩:=ry
  obtain ⟨z,its,n,r,hl,e⟩:=I.lstM hH
  have hlen:its.toArray.size*k.toNat≤sizeLine:=by rw [List.size_toArray,←hl];exact hz
  have hcap:¬ its.toArray.size*k.toNat>(2^63-1)/8:=by
    have:(sizeLine:Nat)≤(2^63-1)/8:=by decide
    lia
  have hfit:¬ (!Builtin.List.listFitsIndex k)=true:=by
    rw [fitsIndex_both h1 h2]
    exact Bool.false_ne_true
  have hlong:¬ Builtin.List.listTooLong (its.toArray.size*k.toNat)=true:=by
    rw [yec hlen]
    exact Bool.false_ne_true
  have hnew:List.foldl (fun x1 x2=>x1++x2) #[] (List.replicate (if its.toArray.isEmpty=true then 0 else k.toNat) its.toArray)=(List.replicate k.toNat its).flatten.toArray:=by
    have f0:∀m:Nat,List.foldl (fun x1 x2=>x1++x2) #[] (List.replicate m its.toArray)=(List.replicate m its).flatten.toArray:=fun m=>by
      have:=ydE its m []
      rw [List.nil_append] at this
      exact this
    rw [f0]
    cases its with
    | nil=>simp
    | cons a r'=>rw [if_neg (by simp)]
  refine wpAny_binaryOp_repeat_ref (T:="list") (U:="int") (by decide) ⟨_,e,rfl⟩ (fun s'=>typeIs_int s' k t) noFill_list_mul F.fills_int_mul F.slot_int_rmul repeat_list F.slot_int_index.lookup
    (call_meets F.slot_int_rmul (typeIs_int s k t) F.entry_int_rmul (F.args_int_rmul_2 _ _) (int___rmul___int_list k t l its.toArray n)
      ⟨e,rfl,⟨_,e,rfl⟩,call_meets F.slot_list_mul ⟨_,e,rfl⟩ F.entry_list_mul (F.args_list_mul_2 _ _) (AutoListH.list___mul___list_int_3 l its.toArray n k t hfit hcap hlong) ⟨e,?_⟩⟩)
  rw [hnew]
  exact ⟨.ref _,_,I.lnew (t':=s.toks) (r.rep k.toNat) (by rw [ygo,Nat.mul_comm];exact hz),rfl,q _ I.fresh⟩
end
end L2
namespace Att
open PySem PySem.W PySem.Calls PyProof.Rows
theorem yco {P:Params}:∀(ns:List Int) (vs:List Value),WellAll P h vs (ns.map WData.int)→IntsAre vs ns:=by
  intro ns
  induction ns with
  | nil =>
    intro vs w
    rw [List.map_nil] at w
    cases w
    exact .nil
  | cons n ns ih =>
    intro vs w
    rw [List.map_cons] at w
    cases w with
    | cons a b =>
      cases a
      exact .cons _ _ (ih _ b)
theorem yeZ {l:OpenLaw} {n:Nat} (hn:l.most=some n) {P:Params} {args:List WData}
    (hpre:l.row.toRowW.claim.pre args=true) (hwl:WellAll P h vals args) :
    Ex3 fun a vs ns=>vals=[Value.ref a]∧args=[WData.list (ns.map WData.int)]∧h.get? a=some { cls:=.type "list",data:=.seq vs.toArray }∧IntsAre vs ns∧ns.length≤n:=by
  have hsh:WShape.hasAll [] args [.list .int]=true:=(pre_splitW hpre).1
  have hc:l.pre.holds [] { args:=args }=true:=(pre_splitW hpre).2
  obtain ⟨d,r,rfl,h1,h2⟩:=hasAllW_cons hsh
  obtain rfl:=hasAllW_nil h2
  obtain ⟨xs,rfl,h3⟩:=hasW_list h1
  obtain ⟨ns,rfl⟩:=items_int h3
  have hlen:ns.length≤n:=by
    unfold OpenLaw.pre at hc
    have h4:(WTm.not (.lt (.lit (.int (n:Int))) (.len (.arg 0)))).holds [] { args:=[.list (ns.map .int)] }=true:=by
      have h4:=(holds_andW hc).1
      rw [hn] at h4
      exact h4
    have h5:=condW_of h4 (w_not (w_lt w_lit (w_len_list (w_arg rfl))))
    rw [List.length_map] at h5
    refine Nat.le_of_not_lt fun q=>?_
    have q':(n:Int)<((ns.length:Nat):Int):=by lia
    first
      | (rw [decide_eq_true q'] at h5;exact absurd h5 (by decide))
      | (simp at h5;lia)
  cases hwl with
  | cons w1 w2 =>
    cases w2
    cases w1 with
    | list ho hall=>exact ⟨_,_,ns,rfl,rfl,ho,yco ns _ hall,hlen⟩
theorem ze4 (l:OpenLaw) (args:List WData):l.row.toRowW.claim.post args (.bool true) args=true :=
  postW_of (r:=l.row.toRowW) (X:=(true==true))
    (show WShape.has [] (.bool true) .bool=true by first|rfl|decide|simp [WShape.has,WShape.arms,WShape.armsAll])
    (show (WTm.eq .res (.lit (.bool true))).value [] { args:=args,res:=some (.bool true),after:=args }=some (.bool (true==true)) from w_eq_bool (w_res rfl) w_lit) rfl
theorem attach_call {l:OpenLaw} {n:Nat} {XP:(Str→Option Value)→Heap→Prop} {YP:World→Heap→Prop} {d:DefRec}
    (hn:l.most=some n) (hdf:d.params.defaults=[])
    (call:∀(w:World) (s₀ s₁:Shared) (mg mb:Str→Option Value) (fa:Addr) (o:Obj) (pm cd doc:Value) (a:Addr) (vs:List Value) (ns:List Int),
      Ground q loose [] XP w s₀ mg mb s₁.heap→YP w s₁.heap→
      s₁.heap.get? fa=some o→o.data = .func (docDef d.name d.params d.body d.scope pm cd doc)→s₁.heap.CodeRec cd d.name→mg d.name=some (.ref fa)→
      s₁.heap.get? a=some { cls:=.type "list",data:=.seq vs.toArray }→IntsAre vs ns→ns.length≤n→s₁.gens = #[]→
      codeAny (model l.prog w) callerA (.call (.ref fa) ⟨[.ref a],[]⟩) (fun r s'=>r = .ok (.ret (.bool true))∧OldK s₁.heap s'.heap∧s'.os=s₁.os∧AllBare s'.gens) s₁) :
    WalkO q loose XP YP l.row.toRowW d [] (fun f vs=>PySem.call f vs):=by
  intro w s₀ s₁ mg mb G Y fa o pm cd doc dV kV ho hd hcd hD hmg hg args vals as hpre hlay hrd hwl hlo
  obtain rfl:dV = .none:=Dflts.none hD hdf
  obtain rfl:kV = .none:=Dflts.noKw hD
  obtain ⟨a,vs,ns,rfl,rfl,hobj,hints,hlen⟩:=yeZ hn hpre hwl
  refine enter_call (codeAny_mono (call w s₀ s₁ mg mb fa o pm cd doc a vs ns G Y ho (fd_plain hd) hcd hmg hobj hints hlen hg) fun r s' hq=>?_)
  obtain ⟨rfl,h2,h3,h4⟩:=hq
  exact ⟨.inl ⟨.bool true,.bool true,[],rfl,fun _=>rfl,.bool true,ze4 l _,fun _=>⟨List.Pairwise.nil,fun _ hm=>(nomatch hm)⟩⟩,h2,h3,h4⟩
end Att
namespace L2
open PySem PySem.Spec PyProof.Rows
theorem zdD:∀ {vs:List Value} {ns:List Int},IntsAre vs ns→Vals (ns.map V.int) vs
  | _,_,.nil=>.nil
  | _,_,.cons n t h=>.cons ⟨t,rfl⟩ (zdD h)
def Only (H:Hp):Prop:=∀b,H b=none∨Ex2 fun o xs=>H b=some (.frz o (.lst xs))
theorem zfI {K:PySem.W.Frag} {mg mb:Str→Option Value} {CX:CXT} {k:Nat} {ns:List Int}
    (KX:K.In s₁.heap) (hns:s₁.heap.Ns mainGlobals mg) (hb:s₁.heap.Ns builtinsNs mb) (hbb:∀x:Str,x≠"__name__"→mb x=bootBuiltins x) (hlim:s₁.heap.NoLimit) (hg:s₁.gens = #[])
    (ha:s₁.heap.get? a=some { cls:=.type "list",data:=.seq vs.toArray }) (hi:IntsAre vs ns) (hl:ns.length≤sizeLine) (hr:Room k callerA)
    (F:∀base:Heap,K.In base→base.Ns mainGlobals mg→FnOk P w K mg base CX k fa fd [x] sp) (hbind:∀(s:Shared) (u:Value),BindsTo s fd ⟨[u],[]⟩ [(x,u)])
    (hsp:∀H:Hp,Only H→SqL K H a (ns.map V.int)→sp [.ref a] H (fun v _=>v = .bl true) fun _ _ _=>False)
    (hCX:∀H e s',CX [] H s₁ (fun _ _ _=>False) e s'→False) :
    codeAny (model P w) callerA (.call (.ref fa) ⟨[.ref a],[]⟩) (fun r s'=>r = .ok (.ret (.bool true))∧OldK s₁.heap s'.heap∧s'.os=s₁.os∧AllBare s'.gens) s₁:=by
  have rv:=zdD hi
  have lenV:=hi.length
  have core:∀H:Hp,Only H→SqL K H a (ns.map V.int)→HOk P w H s₁.heap→(∀b,H b≠none→b=a)→(H a≠none→K.lookup a=none)→
      codeAny (model P w) callerA (.call (.ref fa) ⟨[.ref a],[]⟩) (fun r s'=>r = .ok (.ret (.bool true))∧OldK s₁.heap s'.heap∧s'.os=s₁.os∧AllBare s'.gens) s₁:=by
    intro H hO hS hok hA hK
    have base_of:∀ {b:Addr} {o:Obj},s₁.heap.get? b=some o→H b=none→(hidT s₁.heap H).get? b=some o:=fun e n=>zfH e n
    have noA:∀ {b:Addr} {o:Obj} {es:Array DictEntry} {ep:Nat},s₁.heap.get? b=some o→o.data = .dict es ep→H b=none:=fun {b o es ep} e d=>by
      cases q:H b with
      | none=>rfl
      | some u =>
        have e':b=a:=hA b (by rw [q];simp)
        subst e'
        rw [ha] at e;cases e
        have d':Data.seq vs.toArray _=Data.dict es ep:=d
        cases d'
    have nsK:∀ {b:Addr} {m:Str→Option Value},s₁.heap.Ns b m→(hidT s₁.heap H).Ns b m:=fun {b m} ⟨o,es,ep,e,d,r⟩=>⟨o,es,ep,base_of e (noA e d),d,r⟩
    have hKb:K.In (hidT s₁.heap H):=fun b o e=>base_of (KX b o e) (by
      cases q:H b with
      | none=>rfl
      | some u =>
        have e':b=a:=hA b (by rw [q];simp)
        subst e'
        rw [hK (by rw [q];simp)] at e;cases e)
    have hM:Mod K mg (hidT s₁.heap H):=⟨hKb,nsK hns,⟨mb,nsK hb,hbb⟩,let ⟨mc,h1,h2⟩:=hlim;⟨mc,nsK h1,h2⟩⟩
    have e0:Env0 P w K mg (hidT s₁.heap H) callerA [] s₁ H:=⟨rfl,hM,fun b o e=>zgr e,Nat.le_of_eq (ye4 _ _),trivial,fun b hb=>absurd (show b∈([]:List Addr) from hb) (by simp),hok,.of_eq hg⟩
    refine codeAny_mono ((F _ hKb (nsK hns)).run callerA [] s₁ H ⟨[.ref a],[]⟩ [.ref a] [.ref a] _ _ hr e0 (hbind s₁ (.ref a)) (.cons rfl .nil) (hsp H hO hS)) fun r s' h=>?_
    cases r with
    | error e=>exact (hCX H e s' h).elim
    | ok fl =>
      cases fl with
      | next=>exact False.elim h
      | brk=>exact False.elim h
      | cont=>exact False.elim h
      | ret u =>
        obtain ⟨v,H',os,bare,un,hok',r',q⟩:=h
        have q':v = .bl true:=q
        subst q'
        obtain rfl:u=Value.bool true:=r'
        refine ⟨rfl,OldK.of_keep fun b o e=>?_,os,bare⟩
        cases q:H b with
        | none=>exact un.keep b o e q (by intro z;exact absurd (show b∈([]:List Addr) from z) (by simp)) (by simp)
        | some u =>
          rcases hO b with z | ⟨ob,xs,z⟩
          · rw [q] at z;cases z
          · have z2:=un.frzs b ob _ z
            obtain ⟨e1,_⟩:=hok b _ z
            obtain ⟨e2,_⟩:=hok' b _ z2
            rw [e] at e1;cases e1
            exact e2
  cases hk:K.lookup a with
  | some o =>
    have e:=KX a o hk
    rw [ha] at e
    cases e
    refine core (fun _=>none) (fun _=>.inl rfl) (.inr ⟨_,vs.toArray,_,hk,rfl,rfl,rfl,by rw [List.size_toArray,lenV];exact hl,by simpa using rv⟩) (fun b u z=>by have z':(none:Option HO)=some u:=z;cases z') (fun b z=>absurd rfl z) fun z=>absurd rfl z
  | none =>
    refine core (fun b=>if b=a then some (.frz { cls:=.type "list",data:=.seq vs.toArray } (.lst (ns.map V.int))) else none) (fun b=>?_) (.inl (.inr ⟨{ cls:=.type "list",data:=.seq vs.toArray },if_pos rfl⟩)) (fun b u z=>?_) (fun b z=>?_) fun _=>hk
    · by_cases hb:b=a
      · exact .inr ⟨_,_,if_pos hb⟩
      · exact .inl (if_neg hb)
    · by_cases hb:b=a
      · have z':=(if_pos hb).symm.trans z
        cases z'
        subst hb
        exact ⟨ha,by rw [List.length_map];exact hl,vs,_,rv,ha⟩
      · have z':=(if_neg hb).symm.trans z
        cases z'
    · by_cases hb:b=a
      · exact hb
      · exact absurd (if_neg hb) z
end L2
namespace L2
open PySem PySem.Spec PyProof.Rows
abbrev KOf {K:PySem.W.Frag} {h:Heap} (_:K.In h):PySem.W.Frag:=K
theorem walk_of {l:PySem.W.OpenLaw} {n k:Nat} {XP:(Str→Option Value)→Heap→Prop} {YP:World→Heap→Prop} {d:DefRec} {K:Params→PySem.W.Frag} {CX:World→CXT} {sp:World→Sp}
    (hn:l.most=some n) (hn2:n≤sizeLine) (hdf:d.params.defaults=[]) (hr:Room k callerA)
    (hY:∀(w:World) (h:Heap),YP w h→(K w.params).In h)
    (F:∀(w:World) (mg:Str→Option Value) (fa:Addr) (h:Heap),(K w.params).In h→h.Ns mainGlobals mg→mg d.name=some (.ref fa)→
      ∃fd:FuncData,(∀(s:Shared) (u:Value),BindsTo s fd ⟨[u],[]⟩ [(x,u)])∧
        ∀base:Heap,(K w.params).In base→base.Ns mainGlobals mg→FnOk l.prog w (K w.params) mg base (CX w) k fa fd [x] (sp w))
    (hsp:∀(w:World) (H:Hp) (a:Addr) (ns:List Int),ns.length≤n→Only H→SqL (K w.params) H a (ns.map V.int)→sp w [.ref a] H (fun v _=>v = .bl true) fun _ _ _=>False)
    (hCX:∀(w:World) (H:Hp) (s:Shared) (e:Value) (s':Shared),CX w [] H s (fun _ _ _=>False) e s'→False) :
    PySem.W.WalkO q loose XP YP l.row.toRowW d [] (fun f vs=>PySem.call f vs):=by
  refine Att.attach_call hn hdf fun w s₀ s₁ mg mb fa o pm cd doc a vs ns G Y ho hd hcd hmg hobj hints hlen hg=>?_
  have KX:=hY w _ Y
  obtain ⟨fd,hb,hF⟩:=F w mg fa _ KX G.T.g hmg
  exact zfI KX G.T.g G.T.b G.T.builtins G.T.nolimit hg hobj hints (Nat.le_trans hlen hn2) hr hF hb (fun H hO hS=>hsp w H a ns hlen hO hS) fun H e s'=>hCX w H s₁ e s'
end L2
namespace L2
open PySem PySem.Spec PyProof.Rows
noncomputable def ybF (s:Stmt):Arguments:=match s with
  | .FunctionDef _ a _ _ _ _ _ _ _ _=>a
  | _=>{ posonlyargs:=[],args:=[],vararg:=none,kwonlyargs:=[],kw_defaults:=[],kwarg:=none,defaults:=[] }
def zbu (s:Stmt):List Stmt:=match s with
  | .FunctionDef _ _ b _ _ _ _ _ _ _=>b
  | _=>[]
noncomputable def zac (s:Stmt):Scope:=match s with
  | .FunctionDef _ _ _ _ _ _ sc _ _ _=>sc
  | _=>{ kind:=.function,names:=[],isGenerator:=false,isCoroutine:=false }
abbrev CX0:CXT:=fun _ _ _ _ _ _=>False
abbrev E0:XK:=fun _ _ _=>False
theorem zhc {X:Cx}:yeY CX0 X E0:=fun _ _ _ _ _ _ _ h=>h.elim
structure Fun (K:PySem.W.Frag) (x qual:Str) (st:Stmt) (f:Addr) (fd:FuncData):Prop where
  ex:Ex9 fun (oc:Value) (od:Option Addr) (kV doc pm:Value) (an:Option Addr) (cdv ct:Value) (osl:Array (Option Value)) =>
    fd=PySem.W.fnOf x qual (ybF st) (zbu st) (zac st) .none kV doc pm an cdv ct∧K.lookup f=some ⟨oc,od,.func fd,osl⟩∧PySem.W.codeIn K cdv qual=true
  kp:PySem.W.keepIn K (.ref f)=true
section
variable {P:Program} {w:World} {K:PySem.W.Frag} {mg:Str→Option Value} {base:Heap}
theorem Fun.ok {x qual:Str} {st:Stmt} {f:Addr} {fd:FuncData} {N ps:List Str} {k:Nat} {sp:Sp} (F:Fun K x qual st f fd) (S:yaf N ps (zac st)) (len:∀vs H Q E,sp vs H Q E→vs.length=ps.length)
    (hbody:∀(cdv:Value) (A:Around) (outer:List Env) (s:Shared) (H:Hp) (vs:List V) (Q:VK) (E:XK),Room k (A.deeper (envOfC qual (zac st) s.heap.objs.size f cdv))→sp vs H Q E→
      ∃t,PSs (cxOf CX0 P w K mg base N qual (zac st) f cdv A outer s H E).nox (zbu st) t∧t { nx:=fun _ H'=>Q .non H',rt:=Q } (ydI N vs) H):FnOk P w K mg base CX0 (k+1) f fd ps sp:=by
  obtain ⟨oc,od,kV,doc,pm,an,cdv,ct,osl,rfl,lk,hcd⟩:=F.ex
  refine zhi lk hcd S len fun A outer s H vs Q E hr hsp=>?_
  obtain ⟨t,h,q⟩:=hbody cdv A outer s H vs Q E hr hsp
  exact ⟨t,h.nox,q⟩
theorem Fun.binds {x qual:Str} {st:Stmt} {f:Addr} {fd:FuncData} {ps:List Str} (F:Fun K x qual st f fd)
    (h:∀(kV doc pm:Value) (an:Option Addr) (cdv ct:Value) (us:List Value),us.length=ps.length→bindArgs (PySem.W.fnOf x qual (ybF st) (zbu st) (zac st) .none kV doc pm an cdv ct) ⟨us,[]⟩=pure (ps.zip us)):yet K fd ps []:=by
  obtain ⟨oc,od,kV,doc,pm,an,cdv,ct,osl,rfl,lk,hcd⟩:=F.ex
  exact .all (h kV doc pm an cdv ct)
theorem yf0 {x qual:Str} {st:Stmt} {f:Addr} {oc:Value} {od an:Option Addr} {osl:Array (Option Value)} {kV doc pm cdv ct:Value} (l:K.lookup f=some ⟨oc,od,.func (PySem.W.fnOf x qual (ybF st) (zbu st) (zac st) .none kV doc pm an cdv ct),osl⟩)
    (c:PySem.W.codeIn K cdv qual=true) (k:PySem.W.keepIn K (.ref f)=true):Fun K x qual st f (PySem.W.fnOf x qual (ybF st) (zbu st) (zac st) .none kV doc pm an cdv ct):=⟨⟨oc,od,kV,doc,pm,an,cdv,ct,osl,rfl,l,c⟩,k⟩
end
theorem zha {k:Nat} (hr:Room k A):A.units+1<cLine:=Nat.lt_of_le_of_lt (Nat.add_le_add_left (by decide:1≤64) _) hr.units
theorem yai {n:Nat} (h:n≤1000):n<sizeLine:=Nat.lt_of_le_of_lt h (by decide)
section
variable {X:Cx}
theorem pv (i:Nat) (hN:X.N[i]?=some x:=by rfl) (hv:Vis X.env.scope x:=by first|exact Or.inl rfl|exact Or.inr (Or.inl rfl)|exact Or.inr (Or.inr rfl)) (hd:(x==("__debug__":Str))=false:=by decide)
    (hcd:(x==("__classdict__":Str))=false:=by decide):PE X (.Name x pos) (tVar i):=zgI hN hv hd hcd
end
theorem ite2 {c A B:Prop} [Decidable c] (h1:c→A) (h2:¬ c→B):if c then A else B:=by
  by_cases h:c
  · rw [if_pos h]
    exact h1 h
  · rw [if_neg h]
    exact h2 h
def Same (H H':Hp):Prop:=∀b o,H b=some o→H' b=some o
theorem Same.refl (H:Hp):Same H H:=fun _ _ h=>h
theorem Same.trans (a:Same H H1) (b:Same H1 H2):Same H H2:=fun c o h=>b c o (a c o h)
theorem Same.free (e:Same H H') (h:H' l=Option.none):H l=Option.none:=by
  cases q:H l with
  | none=>rfl
  | some o =>
    rw [e l o q] at h
    cases h
theorem Same.seq {K:PySem.W.Frag} (e:Same H H') (h:SqL K H a xs):SqL K H' a xs:=by
  rcases h with (h | ⟨o,h⟩)|h
  · exact .inl (.inl (e _ _ h))
  · exact .inl (.inr ⟨o,e _ _ h⟩)
  · exact .inr h
end L2
end
section
namespace L2
open PySem PySem.Spec PyProof.Rows
section
variable {κ:Type} [DecidableEq κ]
def valV (kvs:List (κ×V)) (k:κ):Option V:=(kvs.find? fun kv=>decide (kv.1=k)).map (·.2)
noncomputable def putK (kvs:List (κ×V)) (k:κ) (v:V):List (κ×V) :=
  if (kvs.any fun kv=>decide (kv.1=k))=true then kvs.map (fun kv=>if kv.1=k then (kv.1,v) else kv) else kvs++[(k,v)]
theorem yei {p:κ×V} {r:List (κ×V)} {k:κ} (e:p.1=k):valV (p::r) k=some p.2:=by simp [valV,List.find?_cons,e]
theorem zea {p:κ×V} {r:List (κ×V)} {k:κ} (e:¬ p.1=k):valV (p::r) k=valV r k:=by simp [valV,List.find?_cons,e]
theorem ydN (kvs:List (κ×V)) (k:κ) (v:V):(putK kvs k v).length≤kvs.length+1:=by
  unfold putK
  split
  · rw [List.length_map];lia
  · rw [List.length_append,List.length_cons,List.length_nil];lia
theorem KV.val {kvs:List (κ×V)} {vs:List (κ×Value)} (r:KV kvs vs) (k:κ):RelO (valV kvs k) (valueAt vs k):=by
  unfold KV at r
  induction r with
  | nil=>exact True.intro
  | @cons p q ps qs h t ih =>
    obtain ⟨h1,h2⟩:=h
    by_cases e:p.1=k
    · have e':q.1=k:=h1.symm.trans e
      have b:valueAt (q::qs) k=some q.2:=by simp [valueAt,List.find?_cons,e']
      rw [yei e,b];exact h2
    · have e':¬ q.1=k:=fun z=>e (h1.trans z)
      have b:valueAt (q::qs) k=valueAt qs k:=by simp [valueAt,List.find?_cons,e']
      rw [zea e,b];exact ih
theorem KV.any {kvs:List (κ×V)} {vs:List (κ×Value)} (r:KV kvs vs) (k:κ):(kvs.any fun kv=>decide (kv.1=k))=vs.any fun kv=>decide (kv.1=k):=by
  unfold KV at r
  induction r with
  | nil=>rfl
  | cons h t ih=>rw [List.any_cons,List.any_cons,ih,h.1]
theorem KV.repl {kvs:List (κ×V)} {vs:List (κ×Value)} (r:KV kvs vs) (k:κ) (ry:RelV y u) :
    KV (kvs.map fun kv=>if kv.1=k then (kv.1,y) else kv) (vs.map fun kv=>if kv.1=k then (kv.1,u) else kv):=by
  unfold KV at r ⊢
  induction r with
  | nil=>exact .nil
  | @cons p q ps qs h t ih =>
    rw [List.map_cons,List.map_cons]
    refine .cons ?_ ih
    obtain ⟨h1,h2⟩:=h
    by_cases e:p.1=k
    · rw [if_pos e,if_pos (h1.symm.trans e)];exact ⟨h1,ry⟩
    · rw [if_neg e,if_neg (fun z=>e (h1.trans z))];exact ⟨h1,h2⟩
theorem KV.put {kvs:List (κ×V)} {vs:List (κ×Value)} (r:KV kvs vs) (k:κ) (ry:RelV y u):KV (putK kvs k y) (stored vs k u):=by
  unfold putK stored
  rw [r.any k]
  by_cases e:(vs.any fun kv=>decide (kv.1=k))=true
  · rw [if_pos e,if_pos e];exact r.repl k ry
  · rw [if_neg e,if_neg e];exact Paired.snoc r ⟨rfl,ry⟩
theorem KV.keys {kvs:List (κ×V)} {vs:List (κ×Value)} (r:KV kvs vs):kvs.map (·.1)=vs.map (·.1):=by
  unfold KV at r
  induction r with
  | nil=>rfl
  | cons h t ih=>rw [List.map_cons,List.map_cons,ih,h.1]
end
theorem yfE {k:Key} (r:RelV (kV k) u):(zat P w).is k u=true:=by
  cases k with
  | inl i=>obtain ⟨t,e⟩:=(show ∃t,u=Value.int i t from r);subst e;exact yd1 P w i t
  | inr x=>obtain ⟨t,e⟩:=(show ∃t,u=Value.str x t from r);subst e;exact zdK P w x t
theorem ydx:∀ {ks:List Key} {us:List Value},Vals (ks.map kV) us→ItemsAre (zat P w) ks us
  | [],_,r=>by rw [List.map_nil] at r;cases r;exact .nil
  | k::ks,_,r=>by
    rw [List.map_cons] at r
    cases r with
    | cons h t=>exact .cons (yfE h) (ydx t)
noncomputable abbrev KT (H:Hp):List (List Key×V)→List (List Key×Addr×Value)→Prop:=Paired fun p q=>p.1=q.1∧H q.2.1=some (.tup (p.1.map kV))∧RelV p.2 q.2.2
theorem KT.val {kvs:List (List Key×V)} {xs:List (List Key×Addr×Value)} (r:KT H kvs xs) (k:List Key):RelO (valV kvs k) ((atKey xs k).map (·.2)):=by
  induction r with
  | nil=>exact True.intro
  | @cons p q ps qs h t ih =>
    obtain ⟨h1,_,h2⟩:=h
    by_cases e:p.1=k
    · have e':q.1=k:=h1.symm.trans e
      have b:atKey (q::qs) k=some q.2:=by simp [atKey,List.find?_cons,e']
      rw [yei e,b];exact h2
    · have e':¬ q.1=k:=fun z=>e (h1.trans z)
      have b:atKey (q::qs) k=atKey qs k:=by simp [atKey,List.find?_cons,e']
      rw [zea e,b];exact ih
section
variable {P:Program} {w:World} {H:Hp} {h:Heap} {a:Addr}
theorem zgW (ok:HOk P w H h) (e:Rd H a u):yaZ P w H h a u:=e.ok ok
theorem zgo {kvs:List (Key×V)} (ok:HOk P w H h) (e:Rd H a (.dK kvs)):kvs.length≤sizeLine∧(a==sysModules)=false∧∃vs,KV kvs vs∧h.DictOf (zat P w) a vs :=
  show yaZ P w H h a (.dK kvs) from zgW ok e
theorem zht {kvs:List (Key×V)} (ok:HOk P w H h) (e:H a=some (.dK kvs)):kvs.length≤sizeLine∧(a==sysModules)=false∧∃vs,KV kvs vs∧h.DictOf (zat P w) a vs:=zgo ok (.inl e)
theorem zf1 {ks:List Key} (ok:HOk P w H h) (e:H a=some (.tup (ks.map kV))):(tupleKind (zat P w)).is h ks a:=by
  obtain ⟨_,its,r,o,h1,h2,n,h3⟩:=(show yaZ P w H h a (.tup (ks.map kV)) from ok a _ e)
  exact ⟨o,its.toArray,n,h1,h2,h3,by simpa using ydx r⟩
theorem zgN {kvs:List (List Key×V)} (ok:HOk P w H h) (e:Rd H a (.dT kvs)):kvs.length≤sizeLine∧(a==sysModules)=false∧
    ∃xs,KT H kvs xs∧h.DictOfH (tupleKind (zat P w)) a xs:=by
  obtain ⟨z,y,xs,r,o,es,ep,h1,h2,h3,h4,h5⟩:=(show yaZ P w H h a (.dT kvs) from zgW ok e)
  refine ⟨z,y,xs,r,o,es,ep,h1,h2,h3,h4,fun x hx=>?_,h5⟩
  have all:∀ {l:List (List Key×V)} {m:List (List Key×Addr×Value)},KT H l m→∀x∈m,(tupleKind (zat P w)).is h x.1 x.2.1:=by
    intro l m q
    induction q with
    | nil=>intro x hx;exact nomatch hx
    | @cons p q ps qs hq t ih =>
      intro x hx
      rcases List.mem_cons.mp hx with e|hx
      · subst e
        exact zf1 ok (by rw [←hq.1];exact hq.2.1)
      · exact ih x hx
  exact all r x hx
end
noncomputable def DGet (H:Hp) (a:Addr) (y:V) (r:Option V):Prop :=
  (Ex2 fun kvs k=>Rd H a (.dK kvs)∧y=kV k∧r=valV kvs k)∨Ex3 fun kvs k b=>Rd H a (.dT kvs)∧y = .ref b∧H b=some (.tup (k.map kV))∧r=valV kvs k
theorem DGet.k {kvs:List (Key×V)} {k:Key} (e:H a=some (.dK kvs)):DGet H a (kV k) (valV kvs k):=.inl ⟨kvs,k,.inl e,rfl,rfl⟩
section
variable {X:Cx} {pins:List (Addr×Obj)} {σ:St} {H:Hp} {s:Shared} {a:Addr} {y v:V} {u r:Value} {o:Option V} {A:Around} {E:Value→Shared→Prop}
theorem Inv.big (I:Inv X pins σ H s):sysModules<s.heap.objs.size:=by
  have h:mainGlobals<s.heap.objs.size:=(I.mod.glob.keeps I.bk).lt
  exact Nat.lt_trans (by decide) h
theorem zeI {Q:Value→Shared→Prop} (hu:A.units+1<cLine) (I:Inv X pins σ H s) (g:DGet H a y (some v)) (ry:RelV y u) (h:∀w' s',Inv X pins σ H s'→RelV v w'→Q w' s') :
    wpAny (model X.prog X.w) A (getItem (.ref a) u) Q E s:=by
  rcases g with ⟨kvs,k,e,ey,l⟩ | ⟨kvs,k,b,e,ey,eb,l⟩
  · subst ey
    obtain ⟨z,hd,vs,rel,dd⟩:=zgo I.hok e
    obtain ⟨w',hw,rw'⟩:=RelO.some_of (v:=v) (o:=valueAt vs k) (by rw [l];exact rel.val k)
    exact wpAny_getItem_of (yfE ry) dd.mapOf hw (h w' _ (I.tok _) rw')
  · subst ey
    cases (show u=Value.ref b from ry)
    obtain ⟨z,hd,xs,rel,dd⟩:=zgN I.hok e
    obtain ⟨w',hw,rw'⟩:=RelO.some_of (v:=v) (o:=(atKey xs k).map (·.2)) (by rw [l];exact rel.val k)
    obtain ⟨p,hp,hp2⟩:=Option.map_eq_some_iff.mp hw
    refine wpAny_getItem_heap (tupleKind_room_in1 hu) (zf1 I.hok eb) dd hp ?_
    rw [hp2]
    exact h w' _ (I.tok _) rw'
theorem zgi {t':Nat} (I:Inv X pins σ H s) (mu:Mut (H a)) (hs:Heap.SameBut a s.heap h') (he:∃q,h'.get? a=some q) (new:yaZ X.prog X.w (upd H a ob) h' a ob) :
    Inv X pins σ (upd H a ob) { s with heap:=h',toks:=t' } :=
  I.write (x:=a) (e:=a) mu (.inl rfl) (fun b q hb z=>(hs.2 b hb).trans z) he new
theorem zg5 {kvs:List (Key×V)} {vs:List (Key×Value)} (z:kvs.length≤sizeLine) (hd:(a==sysModules)=false) (rel:KV kvs vs) (dd:h'.DictOf (zat P w) a vs) :
    yaZ P w H' h' a (.dK kvs):=⟨z,hd,vs,rel,dd⟩
end
def NoSl (i:Expr):Prop:=∀ov iv,subscripted i false ov iv=operate [ov,iv] (getItem ov iv)
theorem ygu {E:Value→Shared→Prop} {T id:String} {Q:Value→Shared→Prop}
    (hl:typeLookup (.type T) "__getitem__"=pure (some (.builtin id))) (hs:NoSl slice)
    (h:wpAny (model prog w) A (eval value env) (fun o s₁=>wpAny (model prog w) A (eval slice env) (fun i s₂=>s₂.TypeIs o T∧wpAny (model prog w) A (getItem o i) Q E s₂) E s₁) E s) :
    wpAny (model prog w) A (eval (.Subscript value slice pos) env) Q E s:=by
  refine Subscript_ (wpAny_mono h (fun o s₁ h₁=>wpAny_mono h₁ (fun i s₂ h₂=>?_) fun _ _ x=>x) fun _ _ x=>x)
  obtain ⟨hT,h₂⟩:=h₂
  unfold subscriptTail
  refine wpAny_bind ?_
  rw [getitemInPython_of_ne hT.not_modules]
  refine wpAny_bind (wpAny_specialOf hT hl ?_)
  have fin:wpAny (model prog w) A (subscripted slice false o i) (fun r s₃=>wpAny (model prog w) A (letTemporaryGo value o r >>= fun _=>pure r) Q E s₃) E s₂:=by
    rw [hs o i]
    exact wpAny_operating (wpAny_mono h₂ (fun r s₃ h₃=>wpAny_bind (wpAny_letTemporaryGo (wpAny_pure h₃))) fun _ _ x=>x)
  first
    | exact wpAny_pure (wpAny_bind fin)
    | exact wpAny_bind (wpAny_pure (wpAny_bind fin))
    | exact wpAny_bind fin
theorem zdJ {o:Option V} (I:Inv X pins σ H s) (g:DGet H a y o):s.TypeIs (.ref a) "dict":=by
  rcases g with ⟨kvs,k,e,_,_⟩ | ⟨kvs,k,b,e,_,_,_⟩
  · obtain ⟨_,_,vs,_,dd⟩:=zgo I.hok e
    exact dd.typeIs
  · obtain ⟨_,_,xs,_,dd⟩:=zgN I.hok e
    exact dd.typeIs
noncomputable def yhs (td ty:TE):TE:=fun σ H Q=>td σ H fun x H1=>ty σ H1 fun y H2=>Ex2 fun a v=>x = .ref a∧DGet H2 a y (some v)∧Q v H2
section
variable {X:Cx} {o i e value:Expr} {pos pos' tpos:Pos} {td ty tv:TE}
theorem ygz (hu:X.A.units+1<cLine) (ho:PE X o td) (hi:PE X i ty) (hs:NoSl i):PE X (.Subscript o i pos) (yhs td ty):=by
  intro pins s σ H Q I h
  refine ygu PySem.F.slot_dict_getitem.lookup hs (thn (ho pins s σ H _ I h) fun u s1 ⟨x,H1,I1,rx,q1⟩=>thn (hi pins s1 σ H1 _ I1 q1) fun iv s2 hq=>?_)
  obtain ⟨y,H2,I2,ry,a,v,ex,g,q2⟩:=hq
  subst ex
  obtain rfl:u=Value.ref a:=rx
  exact ⟨zdJ I2 g,zeI hu I2 g ry fun w' s3 I3 rw'=>⟨v,H2,I3,rw',q2⟩⟩
end
theorem zeg (h:Heap) (hb:sysModules<h.objs.size):yaZ P w H (h.push { cls:=.type "dict",data:=.dict #[] }) h.objs.size (.dK []) :=
  ⟨Nat.zero_le _,beq_eq_false_iff_ne.mpr (Ne.symm (Nat.ne_of_lt hb)),[],.nil,Heap.DictOf.new h⟩
def ygH:TE:=fun _ H Q=>∀p,H p=none→Q (.ref p) (upd H p (.dK []))
section
variable {X:Cx} {pos:Pos}
theorem zfL:PE X (.Dict [] [] pos) ygH:=fun pins s σ H Q I h =>
  wpAny_Dict_empty ⟨.ref s.heap.objs.size,_,I.laid (a:=s.heap.objs.size) (o:=.dK []) (t':=s.toks) (fun _ _ q=>Heap.get?_push_of_some _ q) (Nat.le_refl _) (zeg s.heap I.big),rfl,h _ (I.hok.fresh (Nat.le_refl _))⟩
end
noncomputable def zeP:List (TE×TE)→St→Hp→(List (V×V)→Hp→Prop)→Prop
  | [],_,H,Q=>Q [] H
  | (tk,tv)::r,σ,H,Q=>tk σ H fun x H1=>tv σ H1 fun y H2=>zeP r σ H2 fun ps H3=>Q ((x,y)::ps) H3
abbrev VV:List (V×V)→List (Value×Value)→Prop:=Paired fun p q=>RelV p.1 q.1∧RelV p.2 q.2
noncomputable def PPs (X:Cx) (pos:Pos) (keys:List (Option Expr)) (values:List Expr) (trs:List (TE×TE)):Prop :=
  ∀(pins:List (Addr×Obj)) (s:Shared) (σ:St) (H:Hp) (Q:List (V×V)→Hp→Prop),Inv X pins σ H s→zeP trs σ H Q→
    wpAny (model X.prog X.w) X.A (evalPairs (pairTrees keys values X.env pos)) (fun vs s'=>Ex2 fun ps H'=>Inv X pins σ H' s'∧VV ps vs∧Q ps H') X.xe s
theorem ye5:PPs X pos [] [] []:=fun pins s σ H Q I h=>pairTrees_nil_walk ⟨[],H,I,.nil,h⟩
theorem ybe {X:Cx} {pos:Pos} {k v:Expr} {ks:List (Option Expr)} {vs:List Expr} {tk tv:TE} {trs:List (TE×TE)} (hk:PE X k tk) (hv:PE X v tv) (hr:PPs X pos ks vs trs) :
    PPs X pos (some k::ks) (v::vs) ((tk,tv)::trs):=fun pins s σ H Q I h =>
  pairTrees_cons_walk (thn (hk pins s σ H _ I h) fun u s1 ⟨x,H1,I1,rx,q1⟩=>thn (hv pins s1 σ H1 _ I1 q1) fun w2 s2 ⟨y,H2,I2,ry,q2⟩ =>
    thn (hr pins s2 σ H2 _ I2 q2) fun ws s3 ⟨ps,H3,I3,rel,q3⟩=>⟨(x,y)::ps,H3,I3,.cons ⟨rx,ry⟩ rel,q3⟩)
def ycg (kvs more:List (Key×V)):List (Key×V):=more.foldl (fun acc kv=>putK acc kv.1 kv.2) kvs
theorem KV.merge:∀ {more:List (Key×V)} {rs:List (Key×Value)} {kvs:List (Key×V)} {vs:List (Key×Value)},KV more rs→KV kvs vs→KV (ycg kvs more) (merged vs rs):=by
  intro more rs kvs vs r
  unfold KV at r
  induction r generalizing kvs vs with
  | nil=>intro q;exact q
  | @cons p q ps qs h t ih =>
    intro r0
    have e:KV (putK kvs p.1 p.2) (stored vs q.1 q.2):=by
      have:=r0.put p.1 h.2
      rw [←h.1];exact this
    exact ih e
theorem ybO:∀(more kvs:List (Key×V)),(ycg kvs more).length≤kvs.length+more.length
  | [],kvs=>by show kvs.length≤kvs.length+0;lia
  | p::r,kvs=>by
    have h1:=ybO r (putK kvs p.1 p.2)
    have h2:=ydN kvs p.1 p.2
    show (ycg (putK kvs p.1 p.2) r).length≤_
    rw [List.length_cons];lia
theorem zcN {P:Program} {w:World}:∀ {kvs:List (Key×V)} {ws:List (Value×Value)},VV (kvs.map fun kv=>(kV kv.1,kv.2)) ws→∃rs,Carries (zat P w) ws rs∧KV kvs rs
  | [],_,r=>by rw [List.map_nil] at r;cases r;exact ⟨[],True.intro,.nil⟩
  | p::kvs,_,r=>by
    rw [List.map_cons] at r
    cases r with
    | @cons a b as bs h t =>
      obtain ⟨rs,c,q⟩:=zcN (P:=P) (w:=w) t
      obtain ⟨b1,b2⟩:=b
      exact ⟨(p.1,b2)::rs,⟨yfE h.1,rfl,c⟩,.cons ⟨rfl,h.2⟩ q⟩
noncomputable def zhn (trs:List (TE×TE)):TE:=fun σ H Q=>∀p,H p=none→zeP trs σ (upd H p (.dK [])) fun ps H2=>H2 p=some (.dK [])∧∃kvs:List (Key×V),ps=kvs.map (fun kv=>(kV kv.1,kv.2))∧kvs.length≤15∧Q (.ref p) (upd H2 p (.dK (ycg [] kvs)))
theorem yeN {X:Cx} {pos:Pos} {keys:List (Option Expr)} {values:List Expr} {trs:List (TE×TE)} (h:PPs X pos keys values trs) (hall:keys.all (·.isSome)=true) (hl:keys.length=values.length) (h0:keys≠[])
    (h15:keys.length≤15):PE X (.Dict keys values pos) (zhn trs):=by
  intro pins s σ H Q I q
  have hn:=I.hok.fresh (Nat.le_refl s.heap.objs.size)
  have I1:=I.laid (a:=s.heap.objs.size) (o:=.dK []) (h':=s.heap.push { cls:=.type "dict",data:=.dict #[] }) (t':=s.toks) (fun _ _ q=>Heap.get?_push_of_some _ q) (Nat.le_refl _) (zeg s.heap I.big)
  refine wpAny_Dict_walk (knd:=zat X.prog X.w) hall hl h0 h15 (thn (h pins _ σ _ _ I1 (q _ hn)) fun ws s2 hq=>?_)
  obtain ⟨ps,H2,I2,rel,e,kvs,ep,lk,q2⟩:=hq
  subst ep
  obtain ⟨rs,c,rk⟩:=zcN (P:=X.prog) (w:=X.w) rel
  obtain ⟨z,hd,vs0,r0,dd⟩:=zht I2.hok e
  cases r0
  refine ⟨rs,c,dd,fun h' dd' hs=>⟨.ref s.heap.objs.size,_,?_,rfl,q2⟩⟩
  have hz:(ycg [] kvs).length≤sizeLine:=by
    have h1:=ybO kvs []
    rw [List.length_nil] at h1
    rw [sizeLine_eq];lia
  have he:∃q,h'.get? s.heap.objs.size=some q:=let ⟨q,_,_,hq,_⟩:=dd';⟨q,hq⟩
  exact zgi I2 (by rw [e];exact True.intro) hs he (zg5 hz hd (rk.merge .nil) dd')
structure M1 (X:Cx) (o:Expr) (m:Str) (apos:Pos) (e:Expr) (cpos:Pos):Prop where
  base:attributeBase o m X.env (eval o X.env)=eval o X.env
  few:((backTo cpos (starEach [e] X.env)).all (fun x=>!x.1)&&(backToKw cpos (keywordEach [] X.env)).all (fun x=>x.1.isSome)
    && decide (([e]:List Expr).length+([]:List Keyword).length+(if ([]:List Keyword).isEmpty then 0 else 1)<30))=true
  line:(apos.endLine==cpos.line)=true
  trees:backTo cpos (starEach [e] X.env)=[(false,eval e X.env)]
structure M2 (X:Cx) (o:Expr) (m:Str) (apos:Pos) (e f:Expr) (cpos:Pos):Prop where
  base:attributeBase o m X.env (eval o X.env)=eval o X.env
  few:((backTo cpos (starEach [e,f] X.env)).all (fun x=>!x.1)&&(backToKw cpos (keywordEach [] X.env)).all (fun x=>x.1.isSome)
    && decide (([e,f]:List Expr).length+([]:List Keyword).length+(if ([]:List Keyword).isEmpty then 0 else 1)<30))=true
  line:(apos.endLine==cpos.line)=true
  trees:backTo cpos (starEach [e,f] X.env)=[(false,eval e X.env),(false,eval f X.env)]
end L2
namespace L2
open PySem PySem.Spec PyProof.Rows
end L2
namespace L2
open PySem PySem.Spec PyProof.Rows
end L2
end
section
namespace L2
open PySem PySem.Spec PyProof.Rows
section
variable {prog:Program} {w:World} {A:Around} {R:Result→Shared→Prop} {s:Shared}
theorem zdQ (I:Nat→Shared→Prop)
    (turn:∀n s,I n s→wpAny (model prog w) A (pyNext it) (fun r s₁=>match r with
      | none=>R (.ok .next) s₁
      | some v=>wpAny (model prog w) A (letOwnedTupleGo target it v) (fun _ s₁'=>wpAny (model prog w) A (assign target env v) (fun _ s₂ =>
          wpAny (model prog w) A (forIn ifs true fun c r=>if r=true then do let ok ←isTrue c env (eval c env);pure (ForInStep.yield ok) else pure (ForInStep.yield r)) (fun ok s₃ =>
            if ok=true then wpAny (model prog w) A (eval elt env) (fun x s₄ =>
              wpAny (model prog w) A (call (.builtin "list.append") [acc,x]) (fun _ s₅=>∃m,m<n∧I m s₅) (fun _ _=>False) s₄) (fun _ _=>False) s₃
            else ∃m,m<n∧I m s₃) (fun _ _=>False) s₂) (fun _ _=>False) s₁') (fun _ _=>False) s₁) (fun _ _=>False) s)
    (n:Nat) (h:I n s):codeAny (model prog w) A (.compLoop (.ListComp elt [⟨target,iter,ifs,0⟩] scope pos) 0 it acc env) R s:=by
  refine codeAny_loop rfl I (fun n s hI=>?_) n h
  show wpAny _ A ((compTurn (.ListComp elt [⟨target,iter,ifs,0⟩] scope pos) 0 it acc env).onRaise (fun x=>do noteFrame x env;theTreesLotGoes x)) _ _ s
  refine wpAny_noted (wpAny_noRaise ?_)
  rw [compTurn_list]
  refine wpAny_bind (wpAny_standAt (wpAny_bind (wpAny_mono (turn n s hI) (fun r s₁ h₁=>?_) fun _ _ h'=>h')))
  cases r with
  | none=>exact wpAny_pure h₁
  | some v =>
    refine wpAny_bind (wpAny_mono h₁ (fun _ s₁' h₁'=>?_) fun _ _ h'=>h')
    refine wpAny_bind (wpAny_mono h₁' (fun _ s₂ h₂=>wpAny_bind (wpAny_mono h₂ (fun ok s₃ h₃=>?_) fun _ _ h'=>h')) fun _ _ h'=>h')
    cases ok with
    | false=>exact wpAny_pure ⟨rfl,h₃⟩
    | true =>
      exact wpAny_bind (wpAny_bind (wpAny_mono h₃ (fun x s₄ h₄=>wpAny_bind (wpAny_mono h₄ (fun _ s₅ h₅=>wpAny_pure (wpAny_pure ⟨rfl,h₅⟩)) fun _ _ h'=>h')) fun _ _ h'=>h'))
end
theorem zby {α:Type} {k:α}:∀ {l:List (Str×α)},l.lookup x=some k→(x,k)∈l:=fun h=>PySem.mem_of_lookup h
theorem zbv {scope:Scope} {env:Env} (h:∀x∈scope.names,x.2 = .free→∃c,env.cells.lookup x.1=some c) :
    ∃cl,closureFor scope env=pure cl∧(∀n c,cl.lookup n=some c→env.cells.lookup n=some c)∧(∀n,(n,NameKind.free)∈scope.names→∃c,cl.lookup n=some c):=by
  have aux:∀(names:List (Str×NameKind)) (cs:List (Str×Addr)),(∀x∈names,x.2 = .free→∃c,env.cells.lookup x.1=some c)→(∀n c,cs.lookup n=some c→env.cells.lookup n=some c)→
      ∃cl,(forIn names cs fun x r=>if (x.2==NameKind.free)=true then do let a ←cellOf env x.1;pure (ForInStep.yield ((x.1,a)::r)) else pure (ForInStep.yield r):Sem (List (Str×Addr)))=pure cl∧
        (∀n c,cl.lookup n=some c→env.cells.lookup n=some c)∧(∀n,((n,NameKind.free)∈names∨∃c,cs.lookup n=some c)→∃c,cl.lookup n=some c):=by
    intro names
    induction names with
    | nil=>intro cs _ hc;exact ⟨cs,rfl,hc,fun n h=>h.elim (fun z=>nomatch z) id⟩
    | cons x r ih =>
      intro cs hx hc
      obtain ⟨n,k⟩:=x
      have hr:∀x∈r,x.2 = .free→∃c,env.cells.lookup x.1=some c:=fun y hy=>hx y (List.mem_cons_of_mem _ hy)
      by_cases hk:k = .free
      · subst hk
        obtain ⟨c,e⟩:=hx (n,.free) List.mem_cons_self rfl
        have hc':∀m d,List.lookup m ((n,c)::cs)=some d→env.cells.lookup m=some d:=fun m d hm=>by
          rw [List.lookup_cons] at hm
          cases hb:m==n with
          | true=>rw [hb] at hm;cases hm;rw [eq_of_beq hb];exact e
          | false=>rw [hb] at hm;exact hc m d hm
        obtain ⟨cl,h1,h2,h3⟩:=ih ((n,c)::cs) hr hc'
        refine ⟨cl,?_,h2,fun m hm=>h3 m ?_⟩
        · rw [List.forIn_cons]
          have e2:cellOf env n=pure c:=by unfold cellOf;rw [e]
          simp only [beq_self_eq_true,if_true,e2]
          exact h1
        · rcases hm with hm | ⟨d,hm⟩
          · rcases List.mem_cons.mp hm with q|q
            · cases q;exact .inr ⟨c,by rw [List.lookup_cons,beq_self_eq_true]⟩
            · exact .inl q
          · refine .inr ?_
            rw [List.lookup_cons]
            cases hb:m==n with
            | true=>exact ⟨c,rfl⟩
            | false=>exact ⟨d,hm⟩
      · obtain ⟨cl,h1,h2,h3⟩:=ih cs hr hc
        refine ⟨cl,?_,h2,fun m hm=>h3 m ?_⟩
        · rw [List.forIn_cons]
          have:(k==NameKind.free)=false:=by simpa using hk
          simp only [this,Bool.false_eq_true,if_false]
          exact h1
        · rcases hm with hm|hm
          · rcases List.mem_cons.mp hm with q|q
            · cases q;exact absurd rfl hk
            · exact .inl q
          · exact .inr hm
  obtain ⟨cl,h1,h2,h3⟩:=aux scope.names [] h (fun n c z=>by simp at z)
  refine ⟨cl,?_,h2,fun n hn=>h3 n (.inl hn)⟩
  simp only [closureFor]
  rw [h1]
  rfl
theorem ya4 {env:Env}:∀ {names:List (Str×NameKind)} {x:Str} {k:NameKind},
    (names.map fun (n,k)=>if (k==NameKind.free&&env.scope.kind==.function&&env.kindOf n==some .cell) then (n,NameKind.cell) else (n,k)).lookup x=some k→(k = .cell∨k = .free)→
    names.lookup x=some .free∨names.lookup x=some .cell
  | [],_,_,h,_=>by simp at h
  | (n,q)::r,x,k,h,hk=>by
    have ih:=@ya4 env r x k
    rw [List.map_cons,List.lookup_cons] at h
    rw [List.lookup_cons]
    by_cases hc:(q==NameKind.free&&env.scope.kind==.function&&env.kindOf n==some .cell)=true
    · simp only [if_pos hc] at h
      cases hx:x==n with
      | true =>
        have:q = .free:=by
          have:=(Bool.and_eq_true_iff.mp (Bool.and_eq_true_iff.mp hc).1).1
          exact eq_of_beq this
        simp [this]
      | false=>rw [hx] at h;exact ih h hk
    · simp only [if_neg hc] at h
      cases hx:x==n with
      | true =>
        rw [hx] at h
        cases h
        rcases hk with rfl|rfl
        · exact .inr rfl
        · exact .inl rfl
      | false=>rw [hx] at h;exact ih h hk
theorem yb7 {env:Env}:∀ {names:List (Str×NameKind)} {x:Str},names.lookup x=some .free→
    (names.map fun (n,k)=>if (k==NameKind.free&&env.scope.kind==.function&&env.kindOf n==some .cell) then (n,NameKind.cell) else (n,k)).lookup x=some .cell∨
    (names.map fun (n,k)=>if (k==NameKind.free&&env.scope.kind==.function&&env.kindOf n==some .cell) then (n,NameKind.cell) else (n,k)).lookup x=some .free
  | [],_,h=>by simp at h
  | (n,q)::r,x,h=>by
    have ih:=@yb7 env r x
    rw [List.map_cons,List.lookup_cons]
    rw [List.lookup_cons] at h
    by_cases hc:(q==NameKind.free&&env.scope.kind==.function&&env.kindOf n==some .cell)=true
    · simp only [if_pos hc]
      cases hx:x==n with
      | true=>exact .inl rfl
      | false=>rw [hx] at h;exact ih h
    · simp only [if_neg hc]
      cases hx:x==n with
      | true=>rw [hx] at h;cases h;exact .inr rfl
      | false=>rw [hx] at h;exact ih h
noncomputable def cxC (X:Cx) (N:List Str) (scope:Scope) (cl:List (Str×Addr)) (C:Addr) (fp:List Addr) (s:Shared) (H:Hp):Cx :=
  { prog:=X.prog,w:=X.w,K:=X.K,mg:=X.mg,base:=X.base,A:=X.A,N:=N,s₀:=s,H₀:=H,env:=compEnvC scope cl C X.env,outer:=X.stack,stack:=X.stack,ex:=fp,fn:=fun _=>false,calm:=X.calm,pn:=[],xe:=fun _ _=>False }
structure CSc (M:List Str) (sc:Scope) (tg cp:List Str) (ci:List Nat) (scope:Scope):Prop where
  kind:scope.kind = .function
  nocell:∀x∈scope.names,x.2≠.cell
  loc:∀x∈scope.names,x.2 = .local→scope.names.lookup x.1=some .local
  free:∀x∈scope.names,x.2 = .free→sc.names.lookup x.1=some .cell∨sc.names.lookup x.1=some .free
  cap:∀x∈cp,scope.names.lookup x=some .free
  at_:ci.map (M[·]?)=cp.map some
  nd:(tg++cp).Nodup
def capσ (k:Nat) (ci:List Nat) (σ:St):St:=List.replicate k none++ci.map fun i=>(σ[i]?).join
abbrev zg9:=Nat→Nat→List V→Hp→Prop
noncomputable def zgn (wi:TI) (k:Nat) (ci:List Nat) (g:TG) (ti:TT) (te:TE):TE:=fun σ H Q=>wi σ H fun J H1=>∃W:zg9,(∃m,W 0 m [] H1)∧∀i m acc H,W i m acc H→
  (J.stop i H∧∀D,H D=none→Q (.ref D) (upd H D (.lst acc)))∨
  (J.go i H∧acc.length<sizeLine∧∃N:List V→Hp→Prop,(∀acc' H',N acc' H'→∃m',m'<m∧W (i+1) m' acc' H')∧∀x H',J.yld i H x H'→g x (capσ k ci σ) H' fun σ2 H2=>ti σ2 H2 fun b H3=>if b=true then te σ2 H3 fun v H4=>N (acc++[v]) H4 else N acc H3)
noncomputable def PIfs (X:Cx) (ifs:List Expr) (t:TT):Prop :=
  ∀(pins:List (Addr×Obj)) (s:Shared) (σ:St) (H:Hp) (Q:Bool→Hp→Prop),Inv X pins σ H s→t σ H Q→
    wpAny (model X.prog X.w) X.A (forIn ifs true fun c r=>if r=true then do let ok ←isTrue c X.env (eval c X.env);pure (ForInStep.yield ok) else pure (ForInStep.yield r)) (TP X pins σ Q) X.xe s
def zhm:TT:=fun _ H Q=>Q true H
theorem zaP:PIfs X [] zhm:=fun pins s σ H Q I h=>wpAny_tests_nil ⟨H,I,h⟩
theorem zcf {X:Cx} {c:Expr} {t:TT} (h:PT X c t):PIfs X [c] t:=fun pins s σ H Q I hq=>wpAny_tests_one (h pins s σ H Q I hq)
section
variable {X:Cx}
structure Gone (X:Cx) (pins:List (Addr×Obj)) (H:Hp) (s:Shared) (C:Addr):Prop where
  ns:∃m,s.heap.Ns C m
  free:H C=none
  ne:C≠X.env.locals
  ab:X.s₀.heap.objs.size≤C
  cells:∀x c,X.env.cells.lookup x=some c→c≠C
  pins:∀p∈X.pn++pins,p.1≠C
  nofs:C∉X.fs
theorem zem {ci:List Nat} {cl:List (Str×Addr)}
    (S:CSc X.N X.env.scope tg cp ci scope) (hcalm:X.calm=true) (hi:PI X target iter wi)
    (hcl1:∀n c,cl.lookup n=some c→X.env.cells.lookup n=some c) (hcl2:∀n,(n,NameKind.free)∈scope.names→∃c,cl.lookup n=some c)
    (hg:∀C fp s H,PG (cxC X (tg++cp) scope cl C fp s H) target g) (ht:∀C fp s H,PIfs (cxC X (tg++cp) scope cl C fp s H) ifs ti) (he:∀C fp s H,PE (cxC X (tg++cp) scope cl C fp s H) elt te)
    (I:Inv X pins σ H s) (h:zgn wi tg.length ci g ti te σ H Q) :
    wpAny (model X.prog X.w) X.A (eval iter X.env) (fun x s₁=>wpAny (model X.prog X.w) X.A (pyIter x) (fun it s₂=>wpAny (model X.prog X.w) X.A (newList []) (fun acc s₃ =>
      wpAny (model X.prog X.w) X.A (newFunctionEnv scope X.env.globals cl [] X.env.qual none .none (some X.env)) (fun cenv s₄ =>
        codeAny (model X.prog X.w) X.A (.compStart (.ListComp elt [⟨target,iter,ifs,0⟩] scope pos) 0 it acc { cenv with scope:=relabel scope X.env })
          (fun r s'=>Ex3 fun D vs H'=>acc = .ref D∧r = .ok .next∧Inv X pins σ (upd H' D (.lst vs)) s'∧H' D=none∧Gone X pins (upd H' D (.lst vs)) s' cenv.locals∧∀D',H' D'=none→Q (.ref D') (upd H' D' (.lst vs))) s₄) X.xe s₃) X.xe s₂) X.xe s₁) X.xe s:=by
  refine thn (hi pins s σ H _ I h) fun v s1 h1=>thn h1 fun itv s2 h2=>?_
  obtain ⟨it,fp,tn,J,H2,e,I2,T,st2,f2,W,⟨m0,w0⟩,turn⟩:=h2
  subst e
  refine wpAny_newObj_type (wpAny_newFunctionEnv S.nocell (by intro y hy;simp at hy) (fun h₁ hns₁ hsb₁=>?_) S.kind)
  dsimp only at hns₁ hsb₁ ⊢
  generalize hHL:s2.heap.push { cls:=.type "list",dict:=none,data:=.seq ([]:List Value).toArray }=HL at hns₁ hsb₁ ⊢
  have hC:HL.objs.size=s2.heap.objs.size+1:=by rw [←hHL,Heap.size_push]
  generalize hD:s2.heap.objs.size=D at hC ⊢
  generalize hCC:HL.objs.size=C at hns₁ hsb₁ hC ⊢
  have hDC:D≠C:=by lia
  have old:∀b o,s2.heap.get? b=some o→h₁.get? b=some o:=fun b o e=>by
    have lt:s2.heap.objs.size≥Nat.succ b:=Heap.lt_size e
    refine hsb₁.extBut b o (show @Ne Nat b C by lia) (Heap.get?_push_of_some _ (hHL ▸ Heap.get?_push_of_some _ e))
  have hD1:h₁.get? D=some { cls:=.type "list",data:=.seq ([]:List Value).toArray 0 }:=by
    refine hsb₁.extBut D _ hDC (Heap.get?_push_of_some _ ?_)
    rw [←hHL,←hD]
    exact Heap.get?_push_size _ rfl
  have fD:H2 D=none:=I2.hok.fresh (by lia)
  have fC:H2 C=none:=I2.hok.fresh (by lia)
  let X':Cx:=cxC X (tg++cp) scope cl C fp s2 H2
  have ok':X'.Ok:=by
    refine ⟨I2.ok.mod,?_,I2.ok.glob,I2.ok.blt,?_,?_,?_,?_,I2.ok.hd,I2.ok.frames,.inl rfl,?_,I2.bs,Nat.le_trans I2.ok.bsz I2.sz,?_,?_,I2.stack,I2.stkFree⟩
    · exact S.kind
    · show s2.heap.objs.size≤C;lia
    · intro x y c hx hy;exact I2.ok.inj x y c (hcl1 x c hx) (hcl1 y c hy)
    · intro x hx
      have hx':(relabel scope X.env).names.lookup x=some .cell∨(relabel scope X.env).names.lookup x=some .free:=hx
      have q:scope.names.lookup x=some .free∨scope.names.lookup x=some .cell:=by
        rcases hx' with z|z
        · exact ya4 z (.inl rfl)
        · exact ya4 z (.inr rfl)
      rcases q with q|q
      · exact hcl2 x (zby q)
      · exact absurd rfl (S.nocell _ (zby q))
    · intro x c hx;cases hx
    · intro b hb
      obtain ⟨o,eo,_⟩:=T.obj _ _ st2 b hb
      have lt:s2.heap.objs.size≥Nat.succ b:=Heap.lt_size eo
      exact ⟨by show @Ne Nat b C;lia,fun x c hx=>(f2 b hb).2.2.2.2.1 x c (hcl1 x c hx)⟩
    · intro b o e hb
      rcases (f2 b hb).2.2.2.1 with z|z
      · exact I2.ok.noex b o e z
      · have l1:X.base.objs.size≥Nat.succ b:=Heap.lt_size e
        have l2:X.base.objs.size≤X.s₀.heap.objs.size:=I2.ok.bsz
        have l3:X.s₀.heap.objs.size≤(b:Nat):=z
        lia
    · intro b hb hbs
      rcases List.mem_cons.mp (I2.stkSub b hbs) with z|z
      · exact (f2 b hb).2.1 z
      · exact (f2 b hb).2.2.1 z
  have capLen:(capσ tg.length ci σ).length=X'.N.length:=by
    show (List.replicate tg.length none++ci.map fun i=>(σ[i]?).join).length=(tg++cp).length
    have:=congrArg List.length S.at_
    simp only [List.length_map] at this
    simp [this]
  have capLook:∀(h':Heap) (m':Str→Option Value),(∀x c o,X.env.cells.lookup x=some c→s2.heap.get? c=some o→∃sl,h'.get? c=some { o with slots:=sl })→
      ∀(i:Nat) (x:Str) (v:V),X'.N[i]?=some x→(capσ tg.length ci σ)[i]?=some (some v)→Vis X'.env.scope x→∃u,RelV v u∧Look X'.env h' m' x u:=by
    intro h' m' hcell i x v e1 e2 e3
    have e1':(tg++cp)[i]?=some x:=e1
    have e2':(List.replicate tg.length none++ci.map fun i=>(σ[i]?).join)[i]?=some (some v):=e2
    by_cases hi':i<tg.length
    · rw [List.getElem?_append_left (by simpa using hi'),List.getElem?_replicate] at e2'
      split at e2' <;> cases e2'
    · rw [List.getElem?_append_right (by simpa using hi'),List.length_replicate,List.getElem?_map] at e2'
      rw [List.getElem?_append_right (by lia)] at e1'
      cases hj:ci[i-tg.length]? with
      | none=>rw [hj] at e2';cases e2'
      | some j =>
        rw [hj] at e2'
        have e2'':(σ[j]?).join=some v:=Option.some.inj e2'
        have e4:σ[j]?=some (some v):=by
          cases q:σ[j]? with
          | none=>rw [q] at e2'';cases e2''
          | some z=>rw [q] at e2'';exact congrArg some e2''
        have e5:X.N[j]?=some x:=by
          have:=congrArg (·[i-tg.length]?) S.at_
          simp only [List.getElem?_map,hj,e1',Option.map_some] at this
          exact Option.some.inj this
        have hx:scope.names.lookup x=some .free:=S.cap x (List.mem_of_getElem? e1')
        have hk:=S.free (x,.free) (zby hx) rfl
        obtain ⟨m,hn,hl⟩:=I2.loc
        obtain ⟨u,r,l⟩:=hl j x v e5 e4 (.inr hk)
        refine ⟨u,r,.inr ⟨?_,?_⟩⟩
        · exact yb7 hx
        · rcases l with ⟨k1,_⟩ | ⟨_,c,k2,k3⟩
          · have k1':X.env.scope.names.lookup x=some .local:=k1
            rcases hk with z|z <;> (rw [z] at k1';cases k1')
          · obtain ⟨c',hc'⟩:=hcl2 x (zby hx)
            have:=hcl1 x c' hc'
            rw [k2] at this;cases this
            obtain ⟨o,ho,hd⟩:=k3
            obtain ⟨sl,q⟩:=hcell x c o k2 ho
            exact ⟨c,hc',_,q,hd⟩
  have I':∀tk,Inv X' [] (capσ tg.length ci σ) H2 { s2 with heap:=h₁,toks:=tk }:=fun tk=>by
    refine ⟨ok',rfl,I2.bare,Un.kept old,⟨_,hns₁,capLook _ _ fun x c o _ e=>⟨o.slots,old c o e⟩⟩,fun x c hx=>?_,fC,fun x c hx=>I2.freeC x c (hcl1 x c hx),fun p hp=>absurd (show p∈([]:List (Addr×Obj)) from hp) (by simp),I2.hok.kept old,?_⟩
    · obtain ⟨v,o,ho,hd⟩:=I2.cell x c (hcl1 x c hx)
      exact ⟨v,o,old c o ho,hd⟩
    · exact capLen
  have recap:∀ {pl pl':List (Addr×Obj)} {σ':St} {H':Hp} {s':Shared},Inv X' (pl++pl') σ' H' s'→Inv X' pl (capσ tg.length ci σ) H' s':=fun {pl pl' σ' H' s'} J=>by
    obtain ⟨m,hn,_⟩:=J.loc
    have u:Un (frs X.stack) fp H2 H' s2.heap s'.heap:=J.base
    exact ⟨J.ok,J.os,J.bare,J.base,⟨m,hn,capLook _ _ fun x c o hx e=>u.any e (I2.freeC x c hx) fun hb=>(f2 c hb).2.2.2.2.1 x c hx rfl⟩,J.cell,J.free,J.freeC,
      fun p hp=>(List.mem_append.mp hp).elim (fun z=>J.pin p (List.mem_append_left _ z)) (fun z=>J.pin p (List.mem_append_right _ (List.mem_append_left _ z))),J.hok,capLen⟩
  have stat:∀ {H':Hp},(∀b∈fp,H' b=none)→∀b∈fp,FpOk X' [] H' b:=fun hn b hb=>by
    obtain ⟨o,eo,_⟩:=T.obj _ _ st2 b hb
    have lt:s2.heap.objs.size≥Nat.succ b:=Heap.lt_size eo
    exact ⟨hn b hb,by show @Ne Nat b C;lia,ok'.exfs b hb,.inl hb,(ok'.exf b hb).2,fun p hp=>absurd (show p∈([]:List (Addr×Obj)) from hp) (by simp)⟩
  have hDfp:D∉fp:=fun hb=>by obtain ⟨o,eo,_⟩:=T.obj _ _ st2 D hb;have lt:s2.heap.objs.size≥Nat.succ D:=Heap.lt_size eo;lia
  have hDcell:∀x c,X'.env.cells.lookup x=some c→c≠D:=fun x c hx=>by
    obtain ⟨v,o,ho,hd⟩:=I2.cell x c (hcl1 x c hx)
    have lt:s2.heap.objs.size≥Nat.succ c:=Heap.lt_size ho
    intro z;have z':@Eq Nat c D:=z;lia
  have hDfs:D∉X'.fs:=fun hb=>by
    have:D∈X.env.locals::X.fs:=I2.stkSub D hb
    rcases List.mem_cons.mp this with z|z
    · have l1:s2.heap.objs.size≥Nat.succ X.env.locals:=I2.lt
      have z':@Eq Nat D X.env.locals:=z
      lia
    · exact I2.nofs (show s2.heap.objs.size≤D by lia) z
  have fin:∀ {pl:List (Addr×Obj)} {σ':St} {H':Hp} {s':Shared} {vs:List V} {us:List Value} {k:Nat},Inv X' pl σ' H' s'→H' D=none→s'.heap.get? D=some { cls:=.type "list",data:=.seq us.toArray k }→Vals vs us→vs.length≤sizeLine→
      (∀D',H' D'=none→Q (.ref D') (upd H' D' (.lst vs)))→
      Ex3 fun D' vs H'=>Value.ref D = .ref D'∧(Except.ok Flow.next:Result) = .ok .next∧Inv X pins σ (upd H' D' (.lst vs)) s'∧H' D'=none∧Gone X pins (upd H' D' (.lst vs)) s' C∧∀D',H' D'=none→Q (.ref D') (upd H' D' (.lst vs)):=by
    intro pl σ' H' s' vs us k J f e r z q
    have u:Un (frs X.stack) fp H2 H' s2.heap s'.heap:=J.base
    have lt:∀ {b:Addr} {o:Obj},s2.heap.get? b=some o→b≠D:=fun {b o} eb zb=>by
      have l1:s2.heap.objs.size≥Nat.succ b:=Heap.lt_size eb
      have l2:@Eq Nat b D:=zb
      lia
    have u2:Un (frs X.stack) fp H2 (upd H' D (.lst vs)) s2.heap s'.heap :=
      ⟨u.keep,u.slot,fun b o eb n hx=>by rw [yad (lt eb)];exact u.free b o eb n hx,u.there,
       fun b xs eb=>by rw [yad (yac eb fD)];exact u.tups b xs eb,fun b o uu eb=>by rw [yad (yac eb fD)];exact u.frzs b o uu eb,fun b ps eb=>by rw [yad (yac eb fD)];exact u.tbls b ps eb⟩
    have hok2:HOk X.prog X.w (upd H' D (.lst vs)) s'.heap:=fun b o eb=>by
      by_cases hb:b=D
      · subst hb
        rw [zab] at eb;cases eb
        exact ⟨z,us,k,r,e⟩
      · rw [yad hb] at eb
        refine (J.hok b o eb).stay (fun _ _ _ q=>q) (fun c hc=>?_) fun c xs hc=>?_
        · rw [yad (fun zz=>by rw [zz,f] at hc;cases hc)];exact hc
        · rw [yad (fun zz=>by rw [zz,f] at hc;cases hc)];exact hc
    refine ⟨D,vs,H',rfl,rfl,I2.call' (ch:=fp) J.os u2 hok2 J.bare ?_,f,⟨?_,?_,?_,?_,?_,?_,?_⟩,q⟩
    · intro b hb
      obtain ⟨_,a2,_,a4,a5,a6⟩:=f2 b hb
      exact ⟨a4,a2,a5,a6⟩
    · obtain ⟨m,hn,_⟩:=J.loc;exact ⟨m,hn⟩
    · rw [yad (Ne.symm hDC)];exact J.free
    · have l1:s2.heap.objs.size≥Nat.succ X.env.locals:=I2.lt
      intro zz;have zz':@Eq Nat C X.env.locals:=zz;lia
    · have l1:X.s₀.heap.objs.size≤s2.heap.objs.size:=I2.sz
      show X.s₀.heap.objs.size≤C;lia
    · intro x c hx zz
      obtain ⟨v,o,ho,hd⟩:=I2.cell x c hx
      have l1:s2.heap.objs.size≥Nat.succ c:=Heap.lt_size ho
      have zz':@Eq Nat c C:=zz
      lia
    · intro p hp zz
      have l1:s2.heap.objs.size≥Nat.succ p.1:=Heap.lt_size (I2.pin p hp).1
      have zz':@Eq Nat p.1 C:=zz
      lia
    · exact I2.nofs (show s2.heap.objs.size≤C by lia)
  have loop:∀tk,codeAny (model X.prog X.w) X.A (.compLoop (.ListComp elt [⟨target,iter,ifs,0⟩] scope pos) 0 (.ref it) (.ref D) (compEnvC scope cl C X.env))
      (fun r s'=>Ex3 fun D' vs H'=>Value.ref D = .ref D'∧r = .ok .next∧Inv X pins σ (upd H' D' (.lst vs)) s'∧H' D'=none∧Gone X pins (upd H' D' (.lst vs)) s' C∧∀D',H' D'=none→Q (.ref D') (upd H' D' (.lst vs))) { s2 with heap:=h₁,toks:=tk }:=by
    intro tk
    refine zdQ (fun n s'=>Ex5 fun i vs us k H'=>Inv X' [] (capσ tg.length ci σ) H' s'∧tn i s'.heap∧(∀b∈fp,H' b=none)∧H' D=none∧s'.heap.get? D=some { cls:=.type "list",data:=.seq us.toArray k }∧Vals vs us∧vs.length≤sizeLine∧W i n vs H') ?_ m0
      ⟨0,[],[],0,H2,I' tk,T.keep _ _ _ st2 (fun b hb o e=>old b o e),fun b hb=>(f2 b hb).1,fD,hD1,.nil,Nat.zero_le _,w0⟩
    rintro n s3 ⟨i,vs,us,k,H3,I3,st3,fr3,fD3,hD3,rv3,z3,w3⟩
    let pD:List (Addr×Obj):=[(D,{ cls:=.type "list",data:=.seq us.toArray k })]
    have pinD:∀ {σ':St} {H':Hp} {s':Shared},Inv X' [] σ' H' s'→H' D=none→s'.heap.get? D=some { cls:=.type "list",data:=.seq us.toArray k }→Inv X' pD σ' H' s':=fun {σ' H' s'} J f e =>
      J.pins_of fun p hp=>by
        have:p=(D,{ cls:=.type "list",data:=.seq us.toArray k }):=by simpa [pD] using hp
        subst this
        exact ⟨e,f,hDC,hDfs,fun v z=>by cases z⟩
    have statD:∀ {H':Hp},(∀b∈fp,H' b=none)→∀b∈fp,FpOk X' pD H' b:=fun hn b hb=>by
      obtain ⟨a1,a2,a3,a4,a5,_⟩:=stat hn b hb
      refine ⟨a1,a2,a3,a4,a5,fun p hp=>?_⟩
      have:p=(D,{ cls:=.type "list",data:=.seq us.toArray k }):=by
        have hp':p∈([]:List (Addr×Obj))++pD:=hp
        simpa [pD] using hp'
      subst this
      exact fun z=>hDfp (by rw [show D=b from z];exact hb)
    rcases turn i n vs H3 w3 with ⟨stop,qn⟩ | ⟨go,zl,N,hN,step⟩
    · refine thn (T.done X' rfl rfl rfl hcalm i pD s3 _ H3 _ (pinD I3 fD3 hD3) (statD fr3) st3 stop) fun r s4 hq=>?_
      obtain ⟨hr,I4⟩:=hq
      subst hr
      have eD:s4.heap.get? D=some { cls:=.type "list",data:=.seq us.toArray k }:=(I4.pin (D,_) (by simp [pD])).1
      exact fin I4 fD3 eD rv3 z3 qn
    · refine thn (T.item X' rfl rfl rfl hcalm i pD s3 _ H3 _ (pinD I3 fD3 hD3) (statD fr3) st3 go) fun r s4 hq=>?_
      obtain ⟨u,hr,h4⟩:=hq
      subst hr
      refine thn h4 fun _ s5 hq=>?_
      obtain ⟨x,H5,I5,r5,y5,st5,fr5⟩:=hq
      have I5':=I5.pinned (statD fr5) (T.obj _ _ st5)
      refine thn (hg C fp s2 H2 _ s5 _ H5 x u _ I5' r5 (step x H5 y5)) fun _ s6 hq=>?_
      obtain ⟨σ6,H6,I6,q6⟩:=hq
      refine thn (ht C fp s2 H2 _ s6 σ6 H6 _ I6 q6) fun b s7 hq=>?_
      obtain ⟨H7,I7,q7⟩:=hq
      have again:∀ {s8:Shared} {H8:Hp},Inv X' (pD++ydF fp s5.heap) σ6 H8 s8→Inv X' pD (capσ tg.length ci σ) H8 s8∧tn (i+1) s8.heap∧(∀b∈fp,H8 b=none)∧H8 D=none∧s8.heap.get? D=some { cls:=.type "list",data:=.seq us.toArray k }:=fun {s8 H8} I8=>by
        have e8:=I8.pin (D,_) (List.mem_append_right _ (List.mem_append_left _ (by simp [pD] <;> rfl)))
        refine ⟨?_,T.keep _ _ _ st5 fun b hb o e=>(I8.pin (b,o) (List.mem_append_right _ (List.mem_append_right _ (zbA hb e)))).1,fun b hb=>?_,e8.2.1,e8.1⟩
        · exact recap I8
        · obtain ⟨o,e,d⟩:=T.obj _ _ st5 b hb
          exact (I8.pin (b,o) (List.mem_append_right _ (List.mem_append_right _ (zbA hb e)))).2.1
      cases b with
      | false =>
        obtain ⟨m',hm,w7⟩:=hN _ _ q7
        obtain ⟨J,t7,f7,d7,e7⟩:=again I7
        exact ⟨m',hm,i+1,vs,us,k,H7,J.pins_of (fun p hp=>nomatch hp),t7,f7,d7,e7,rv3,z3,w7⟩
      | true =>
        simp only [if_true] at q7 ⊢
        refine thn (he C fp s2 H2 _ s7 σ6 H7 _ I7 q7) fun y s8 hq=>?_
        obtain ⟨yv,H8,I8,r8,q8⟩:=hq
        obtain ⟨m',hm,w8⟩:=hN _ _ q8
        obtain ⟨J,t8,f8,d8,e8⟩:=again I8
        refine call_meets F.slot_list_append ⟨_,e8,rfl⟩ F.entry_list_append (F.args_list_append_2 _ _) (PySem.list_append D us.toArray k y (by rw [List.size_toArray,←rv3.length];exact z3)) ⟨e8,?_⟩
        have q:=PySem.IsL.update e8 (·.push y)
        have J0:Inv X' [] (capσ tg.length ci σ) H8 s8:=J.pins_of (fun p hp=>nomatch hp)
        refine ⟨m',hm,i+1,vs++[yv],us++[y],_,H8,J0.turned (it:=D) (t':=s8.toks) (fun b o hb hu=>(Heap.get?_update_other s8.heap _ (Ne.symm hb)).trans hu) d8 hDC (.inr (by show s2.heap.objs.size≤D;lia)) hDcell (fun p hp=>absurd (show p∈([]:List (Addr×Obj)) from hp) (by simp)),?_,f8,d8,by simpa using q,rv3.append (.cons r8 .nil),by simp;lia,w8⟩
        exact T.keep _ _ _ t8 fun b hb o hu=>(Heap.get?_update_other s8.heap _ (fun z=>hDfp (by rw [z];exact hb))).trans hu
  exact codeAny_compStart_list (loop _) (T.self X.A 0 _ _ _ (T.keep _ _ _ st2 (fun b hb o e=>old b o e)) (loop _))
theorem Gone.turned {pins:List (Addr×Obj)} {σ:St} {H:Hp} {s:Shared} {C:Addr} {h':Heap} (G:Gone X pins H s C) (I:Inv X pins σ H s) (hs:Heap.SameBut C s.heap h'):Inv X pins σ H { s with heap:=h' } :=
  I.turned (t':=s.toks) (fun b o hb e=>hs.extBut b o hb e) G.free G.ne (.inr G.ab) G.cells G.pins
theorem zfO {elt target iter:Expr} {ifs:List Expr} {scope:Scope} {pos:Pos} {tg cp:List Str} {ci:List Nat} {wi:TI} {g:TG} {ti:TT} {te:TE}
    (S:CSc X.N X.env.scope tg cp ci scope) (hcalm:X.calm=true) (hi:PI X target iter wi)
    (hg:∀cl C fp s H,PG (cxC X (tg++cp) scope cl C fp s H) target g) (ht:∀cl C fp s H,PIfs (cxC X (tg++cp) scope cl C fp s H) ifs ti) (he:∀cl C fp s H,PE (cxC X (tg++cp) scope cl C fp s H) elt te)
    (hs:∀x,foldedSetIterable iter X.env x=pure x:=by intro _;rfl):PE X (.ListComp elt [⟨target,iter,ifs,0⟩] scope pos) (zgn wi tg.length ci g ti te):=by
  intro pins s σ H Q I h
  obtain ⟨cl,hclos,h1,h2⟩:=zbv (scope:=scope) (env:=X.env) fun x hx hf=>I.ok.has x.1 (S.free x hx hf)
  rw [eval_ListComp]
  refine wpAny_comprehension_free (use:=none) rfl hs hclos S.kind S.loc (thn (zem S hcalm hi h1 h2 (hg cl) (ht cl) (he cl) I h) fun x s1 q1=>thn q1 fun it s2 q2=>thn q2 fun acc s3 q3=>thn q3 fun cenv s4 q4=>codeAny_mono q4 fun r s' q=>?_)
  obtain ⟨D,vs,H',e1,e2,I',f,G,q⟩:=q
  subst e1 e2
  obtain ⟨m,hn⟩:=G.ns
  exact ⟨m,hn,fun h' hsb=>⟨.ref D,_,G.turned I' hsb,rfl,q D f⟩⟩
theorem ycs {i:Nat} {y:Str} {py:Pos} {elt target iter:Expr} {ifs:List Expr} {scope:Scope} {pos spos:Pos} {tg cp:List Str} {ci:List Nat} {wi:TI} {g:TG} {ti:TT} {te:TE}
    (hN:X.N.Nodup) (hi':X.N[i]?=some y) (hy:Loc X.env.scope y)
    (S:CSc X.N X.env.scope tg cp ci scope) (hcalm:X.calm=true) (hi:PI X target iter wi)
    (hg:∀cl C fp s H,PG (cxC X (tg++cp) scope cl C fp s H) target g) (ht:∀cl C fp s H,PIfs (cxC X (tg++cp) scope cl C fp s H) ifs ti) (he:∀cl C fp s H,PE (cxC X (tg++cp) scope cl C fp s H) elt te)
    (hsw:swapsWith (.ListComp elt [⟨target,iter,ifs,0⟩] scope pos) (some (.Name y py)) spos.line X.env=pure true:=by rfl)
    (hs:∀x,foldedSetIterable iter X.env x=pure x:=by intro _;rfl) (hf:X.fn y=true∨X.env.scope.names.lookup y=some .local:=by first|exact .inl rfl|exact .inr rfl|assumption) :
    PS X (.Assign [.Name y py] (.ListComp elt [⟨target,iter,ifs,0⟩] scope pos) spos) (tAsg (zgn wi tg.length ci g ti te) (yat i)):=by
  intro pins s σ H D I h
  obtain ⟨cl,hclos,h1,h2⟩:=zbv (scope:=scope) (env:=X.env) fun x hx hf=>I.ok.has x.1 (S.free x hx hf)
  rw [exec_Assign_Name_used _ _ _ _ hsw]
  refine wpAny_bind (wpAny_standAt (wpAny_bind ?_))
  show wpAny _ X.A (do let _ ←comprehension (.ListComp elt [⟨target,iter,ifs,0⟩] scope pos) scope X.env _ (newList []) false (eval iter X.env) (some (assign (.Name y py) X.env))) _ _ s
  refine wpAny_bind (wpAny_mono (wpAny_comprehension_free (use:=some (assign (.Name y py) X.env)) (Q:=fun _ s'=>SP X pins D .next s') rfl hs hclos S.kind S.loc
    (thn (zem S hcalm hi h1 h2 (hg cl) (ht cl) (he cl) I h) fun x s1 q1=>thn q1 fun it s2 q2=>thn q2 fun acc s3 q3=>thn q3 fun cenv s4 q4=>codeAny_mono q4 fun r s' q=>?_)) (fun _ s' hq=>wpAny_pure (wpAny_pure hq)) fun _ _ e=>e)
  obtain ⟨D',vs,H',e1,e2,I',f,G,q⟩:=q
  subst e1 e2
  show wpAny _ X.A (assign (.Name y py) X.env (.ref D')) _ _ _
  obtain ⟨m,o,es,ep,ho,hd,hk⟩:=G.ns
  have pin:Inv X ((cenv.locals,o)::pins) σ (upd H' D' (.lst vs)) s':=I'.pins_of fun p hp=>by
    rcases List.mem_cons.mp hp with z|z
    · subst z
      exact ⟨ho,G.free,G.ne,G.nofs,fun v z=>by rw [hd] at z;cases z⟩
    · exact I'.pin p (List.mem_append_right _ z)
  refine wpAny_assign_Name (zaT (v:=V.ref D') pin hN hi' hy (show RelV (.ref D') (.ref D') from rfl) (fun s2 I2=>?_) hf)
  have I3:Inv X pins (σ.set i (some (.ref D'))) (upd H' D' (.lst vs)) s2:=I2.pins_of fun p hp=>I2.pin p (List.mem_append_right _ (List.mem_cons_of_mem _ hp))
  have e2:=I2.pin (cenv.locals,o) (List.mem_append_right _ List.mem_cons_self)
  have G2:Gone X pins (upd H' D' (.lst vs)) s2 cenv.locals:=⟨⟨m,o,es,ep,e2.1,hd,hk⟩,G.free,G.ne,G.ab,G.cells,G.pins,G.nofs⟩
  exact ⟨m,⟨o,es,ep,e2.1,hd,hk⟩,fun h' hsb=>⟨_,_,G2.turned I3 hsb,q D' f⟩⟩
end
end L2
end
section
namespace L2
open PySem PySem.Spec PyProof.Rows
structure zge (P:Program) (w:World) (A:Around) (a:Addr) (dep:List Addr) (ok:Nat→Heap→Prop) (val:Nat→Option Value):Prop where
  mem:a∈dep
  obj:∀k h,ok k h→∃o,h.get? a=some o∧(∀v,o.data≠.cell v)∧o.cls≠.type "zip"∧o.cls≠.type "enumerate"∧o.cls≠.type "tuple"
  keep:∀k h h',ok k h→(∀b∈dep,∀o,h.get? b=some o→h'.get? b=some o)→ok k h'
  item:∀k x (s:Shared) (Q:Value→Shared→Prop) (E:Value→Shared→Prop),ok k s.heap→val k=some x→(∀h',ok (k+1) h'→Heap.SameBut a s.heap h'→Q x { s with heap:=h' })→
    wpAny (model P w) A (Builtin.SmallTypes.nextOf (.ref a)) Q E s
  stop:∀k (s:Shared) (Q:Value→Shared→Prop) (E:Value→Shared→Prop),ok k s.heap→val k=none→
    (∀h' e,Heap.ExtBut a s.heap h'→(∃o,h'.get? e=some o∧o.cls = .type "StopIteration")→E (.ref e) { s with heap:=h' })→wpAny (model P w) A (Builtin.SmallTypes.nextOf (.ref a)) Q E s
section
variable {P:Program} {w:World} {A:Around}
theorem zgm {a l:Addr} {xs:Array Value} (hh:A.handled=none) (ne:l≠a):zge P w A a [a,l] (fun k h=>h.IsListIter a l k∧h.IsList l xs) (fun k=>xs[k]?) where
  mem:=List.mem_cons_self
  obj:=fun k h z=>by
    obtain ⟨⟨o,e,c,d⟩,_⟩:=z
    exact ⟨o,e,fun v q=>(by rw [d] at q;cases q),(by rw [c];decide),(by rw [c];decide),(by rw [c];decide)⟩
  keep:=fun k h h' z q=>⟨z.1.at fun o e=>q a (by simp) o e,z.2.at fun o e=>q l (by simp) o e⟩
  item:=fun k x s Q E z e q=>wpAny_nextOf_list_item z.1 z.2 e fun h' h1 h2=>q h' ⟨h1,z.2.extBut h2.extBut ne⟩ h2
  stop:=fun k s Q E z e q=>wpAny_nextOf_list_end hh z.1 z.2 e q
theorem ycP {h h':Heap} {a l:Addr} {k:Nat} (x:h.IsTupleIter a l k) (e:∀o,h.get? a=some o→h'.get? a=some o):h'.IsTupleIter a l k:=let ⟨o,ho,r⟩:=x;⟨o,e _ ho,r⟩
theorem yg0 {h h':Heap} {a:Addr} {xs:Array Value} (x:h.IsTuple a xs) (e:∀o,h.get? a=some o→h'.get? a=some o):h'.IsTuple a xs:=let ⟨o,ho,r⟩:=x;⟨o,e _ ho,r⟩
theorem zgQ {a l:Addr} {xs:Array Value} (hh:A.handled=none) (ne:l≠a):zge P w A a [a,l] (fun k h=>h.IsTupleIter a l k∧h.IsTuple l xs) (fun k=>xs[k]?) where
  mem:=List.mem_cons_self
  obj:=fun k h z=>by
    obtain ⟨⟨o,e,c,d⟩,_⟩:=z
    exact ⟨o,e,fun v q=>(by rw [d] at q;cases q),(by rw [c];decide),(by rw [c];decide),(by rw [c];decide)⟩
  keep:=fun k h h' z q=>⟨ycP z.1 fun o e=>q a (by simp) o e,yg0 z.2 fun o e=>q l (by simp) o e⟩
  item:=fun k x s Q E z e q=>by
    obtain ⟨o,ho,hc,hd⟩:=id z.1
    obtain ⟨ol,hol,_,nl,hdl⟩:=id z.2
    unfold Builtin.SmallTypes.nextOf
    refine wpAny_bind (wpAny_callSpecial?_slot (name:=Str.ofString "__next__") z.1.typeIs F.slot_tuple_iterator_next (wpAny_call_entry F.slot_tuple_iterator_next z.1.typeIs F.entry_tuple_iterator_next ?_ (F.args_tuple_iterator_next_1 _)))
    show wpAny _ _ (field (.ref a) 0 >>= _) _ _ s;refine wpAny_bind (wpAny_field ho hd (x:=.ref l) rfl ?_)
    show wpAny _ _ (if (Value.ref l==Value.none)=true then _ else _) _ _ s;rw [if_neg (show ¬ ((Value.ref l==Value.none)=true) from Bool.false_ne_true)]
    show wpAny _ _ (field (.ref a) 1 >>= _) _ _ s;refine wpAny_bind (wpAny_field ho hd (x:=.int k 0) rfl ?_)
    show wpAny _ _ (seqItems? (.ref l) >>= _) _ _ s;refine wpAny_bind (wpAny_seqItems hol hdl ?_)
    simp only [Int.toNat_natCast,e]
    refine wpAny_bind (wpAny_setField ho hd (by simp) (wpAny_pure ⟨x,rfl,wpAny_pure (q _ ⟨?_,z.2.extBut (Heap.SameBut.update ..).extBut ne⟩ (Heap.SameBut.update ..))⟩))
    exact ⟨_,Heap.get?_update_self _ ho (Obj.isFreed_of_fields (Obj.data_mapFields hd _)),(Obj.cls_mapFields ..).trans hc,by rw [Obj.data_mapFields hd];simp [rawInt]⟩
  stop:=fun k s Q E z e q=>by
    obtain ⟨o,ho,hc,hd⟩:=id z.1
    obtain ⟨ol,hol,_,nl,hdl⟩:=id z.2
    unfold Builtin.SmallTypes.nextOf
    refine wpAny_bind (wpAny_callSpecial?_slot (name:=Str.ofString "__next__") z.1.typeIs F.slot_tuple_iterator_next (wpAny_call_entry F.slot_tuple_iterator_next z.1.typeIs F.entry_tuple_iterator_next ?_ (F.args_tuple_iterator_next_1 _)))
    show wpAny _ _ (field (.ref a) 0 >>= _) _ _ s;refine wpAny_bind (wpAny_field ho hd (x:=.ref l) rfl ?_)
    show wpAny _ _ (if (Value.ref l==Value.none)=true then _ else _) _ _ s;rw [if_neg (show ¬ ((Value.ref l==Value.none)=true) from Bool.false_ne_true)]
    show wpAny _ _ (field (.ref a) 1 >>= _) _ _ s;refine wpAny_bind (wpAny_field ho hd (x:=.int k 0) rfl ?_)
    show wpAny _ _ (seqItems? (.ref l) >>= _) _ _ s;refine wpAny_bind (wpAny_seqItems hol hdl ?_)
    simp only [Int.toNat_natCast,e]
    refine wpAny_bind (wpAny_rule (wpAny_bind (wpAny_setField ho hd (by simp) ?_)))
    show wpAny _ _ (newExc (.type "StopIteration") [] >>= _) _ _ _;refine wpAny_bind ?_
    simp only [newExc,newTuple]
    refine wpAny_bind (wpAny_newObj_type ?_ (by size_fits))
    refine wpAny_bind (m:=firstArgMember _ _) (wpAny_of_eq (a:=Value.none) (by first|rfl|(simp only [firstArgMember];rfl)) (wpAny_newObj_type ?_ (by size_fits)))
    simp only [raiseNew]
    refine wpAny_bind (wpAny_handled ?_)
    first|rw [show A.in1.handled=none from hh]|rw [hh]
    exact wpAny_bind (wpAny_pure (wpAny_throw (q _ _ (((Heap.SameBut.update ..).extBut.push _).push _) ⟨_,Heap.get?_push_size _ rfl,rfl⟩)))
end
structure ZAp (z TI TO:Addr) (d1 d2:List Addr) (i1 i2:Addr):Prop where
  a1:TI≠z
  a2:TO≠z
  a3:TI≠TO
  b1:z∉d1
  b2:z∉d2
  b3:TO∉d1
  b4:TO∉d2
  b5:TI≠i1
  b6:TI≠i2
  c1:i1∉d2
  c2:i2∉d1
end L2
end
section
namespace L2
open PySem PySem.Spec PyProof.Rows
def SqB (K:PySem.W.Frag):Bool→Hp→Addr→List V→Prop
  | true=>fun H a xs=>SqT K H a xs
  | false=>fun H a xs=>SqL K H a xs
def zcL:Bool→Heap→Addr→Array Value→Prop
  | true=>fun h a xs=>h.IsTuple a xs
  | false=>fun h a xs=>h.IsList a xs
noncomputable def zdd:Bool→Heap→Addr→Addr→Nat→Prop
  | true=>fun h a l k=>h.IsTupleIter a l k
  | false=>fun h a l k=>h.IsListIter a l k
noncomputable def zc3 (b:Bool) (l:Addr):Obj:={ cls:=.type (if b then "tuple_iterator" else "list_iterator"),data:=.fields #[.ref l,.int 0 0] }
theorem yeH (b:Bool) (h:Heap) (l:Addr) (a:Addr) (e:h.get? a=some (zc3 b l)):zdd b h a l 0:=by cases b <;> exact ⟨_,e,rfl,rfl⟩
theorem yd8 {b:Bool} {k:Nat} (x:zdd b h a l k) (e:∀o,h.get? a=some o→h'.get? a=some o):zdd b h' a l k:=by
  cases b
  · exact Heap.IsListIter.at x e
  · exact ycP x e
theorem subB {P:Program} {w:World} {A:Around} (b:Bool) {xs:Array Value} (hh:A.handled=none) (ne:l≠a):zge P w A a [a,l] (fun k h=>zdd b h a l k∧zcL b h l xs) (fun k=>xs[k]?):=by
  cases b
  · exact zgm hh ne
  · exact zgQ hh ne
theorem zdG {b:Bool} {k:Nat} (x:zdd b h a l k):∃o,h.get? a=some o∧(∀v,o.data≠.cell v)∧(o.cls = .type "tuple_iterator"∨o.cls = .type "list_iterator"):=by
  cases b <;> obtain ⟨o,e,c,d⟩:=x
  · exact ⟨o,e,fun v q=>(by rw [d] at q;cases q),.inr c⟩
  · exact ⟨o,e,fun v q=>(by rw [d] at q;cases q),.inl c⟩
theorem yea {E:Value→Shared→Prop} {b:Bool} {Q:Value→Shared→Prop} (ht:zcL b s.heap t items)
    (hQ:Q (.ref s.heap.objs.size) { s with heap:=s.heap.push (zc3 b t) }):wpAny (model P w) A (pyIter (.ref t)) Q E s:=by
  cases b
  · exact wpAny_pyIter_list ht hQ
  · exact wpAny_pyIter_tuple ht hQ
section
variable {X:Cx} {pins:List (Addr×Obj)} {σ:St} {H:Hp} {s:Shared}
theorem Inv.seqB {b:Bool} (I:Inv X pins σ H s) (h:SqB X.K b H a xs):∃its:List Value,Vals xs its∧zcL b s.heap a its.toArray∧xs.length≤sizeLine:=by
  cases b
  · obtain ⟨its,r,p,z⟩:=I.list h;exact ⟨its,r,p.isList,z⟩
  · obtain ⟨its,r,p,z⟩:=I.tuple h;exact ⟨its,r,p,z⟩
theorem Inv.seqB_inj {b:Bool} (I:Inv X pins σ H s) (h:SqB X.K b H a xs) (h':SqB X.K b H a ys):xs=ys:=by
  cases b
  · exact I.list_inj h h'
  · exact I.tuple_inj h h'
theorem Inv.turnedT {fp:List Addr} {h':Heap} {t':Nat} {T:Addr} {xs:List V} {its:Array Value} (I:Inv X pins σ H s) (hf:∀b∈fp,FpOk X pins H b) (k:∀b o,b∉fp→s.heap.get? b=some o→h'.get? b=some o)
    (hp:s.heap.objs.size≤T) (z:xs.length≤sizeLine) (r:Vals xs its.toList) (new:h'.IsTuple T its):Inv X pins σ (upd H T (.tup xs)) { s with heap:=h',toks:=t' }:=by
  have fT:H T=none:=I.hok.fresh hp
  have nT:∀b o,s.heap.get? b=some o→b≠T:=fun b o e q=>by
    have l1:s.heap.objs.size≥Nat.succ b:=Heap.lt_size e
    have l2:@Eq Nat b T:=q
    lia
  have nfp:∀b u,H b=some u→b∉fp:=fun b u e q=>by rw [(hf b q).1] at e;cases e
  refine I.step (g':=s.gens) (d':=s.drawn) (ch:=fp) (fun b hb=>⟨(hf b hb).2.2.2.1,(hf b hb).2.1,(hf b hb).2.2.2.2.1,(hf b hb).2.2.2.2.2⟩) (fun b o _ _ hc e _=>k b o hc e) (fun b o _ _ hc e _=>⟨o.slots,k b o hc e⟩)
    (fun b o _ e n=>by rw [yad (nT b o e)];exact n) (fun b o hc e=>⟨o,k b o hc e⟩) (fun b ys e=>by rw [yad (yac e fT)];exact e) (fun b o u e=>by rw [yad (yac e fT)];exact e)
    (fun b ps e=>⟨#[],by rw [yad (yac e fT),e];simp⟩) (fun m hm=>?_) (fun b u e=>?_) I.bare
  · obtain ⟨o,es,ep,ho,q⟩:=hm
    exact ⟨o,es,ep,k _ o (fun hb=>(hf _ hb).2.1 rfl) ho,q⟩
  · by_cases hb:b=T
    · subst hb
      rw [zab] at e;cases e
      have q:IsTup h' b its:=new
      exact ⟨z,its.toList,r,by simpa using q⟩
    · rw [yad hb] at e
      refine (I.hok b u e).stay (fun c v hc q=>k c v ?_ q) (fun c q=>?_) fun c ys q=>?_
      · rcases hc with hc|hc
        · rw [hc];exact nfp b u e
        · exact nfp c _ hc
      · rw [yad (yac q fT)];exact q
      · rw [yad (yac q fT)];exact q
theorem Inv.turnedL {fp:List Addr} {h':Heap} {t':Nat} (I:Inv X pins σ H s) (hf:∀b∈fp,FpOk X pins H b) (k:∀b o,b∉fp→s.heap.get? b=some o→h'.get? b=some o):Inv X pins σ H { s with heap:=h',toks:=t' }:=by
  have nfp:∀b u,H b=some u→b∉fp:=fun b u e q=>by rw [(hf b q).1] at e;cases e
  refine I.step (g':=s.gens) (d':=s.drawn) (ch:=fp) (fun b hb=>⟨(hf b hb).2.2.2.1,(hf b hb).2.1,(hf b hb).2.2.2.2.1,(hf b hb).2.2.2.2.2⟩) (fun b o _ _ hc e _=>k b o hc e) (fun b o _ _ hc e _=>⟨o.slots,k b o hc e⟩)
    (fun b o _ e n=>n) (fun b o hc e=>⟨o,k b o hc e⟩) (fun b ys e=>e) (fun b o u e=>e) (fun b ps e=>⟨#[],by rw [e];simp⟩) (fun m hm=>?_) (fun b u e=>?_) I.bare
  · obtain ⟨o,es,ep,ho,q⟩:=hm
    exact ⟨o,es,ep,k _ o (fun hb=>(hf _ hb).2.1 rfl) ho,q⟩
  · refine (I.hok b u e).stay (fun c v hc q=>k c v ?_ q) (fun c q=>q) fun c ys q=>q
    rcases hc with hc|hc
    · rw [hc];exact nfp b u e
    · exact nfp c _ hc
end
structure ZSt (b1 b2:Bool) (z TI TO i1 i2 l1 l2:Addr) (k:Nat) (h:Heap):Prop where
  zip:IsZip h z TI TO .none
  ti:IsPair h TI (.ref i1) (.ref i2)
  to:Ex2 fun a b=>IsPair h TO a b
  it1:zdd b1 h i1 l1 k
  it2:zdd b2 h i2 l2 k
theorem zg8 {h:Heap} {a b:Addr} {o u:Obj} {x y:String} (e:h.get? a=some o) (e':h.get? b=some u) (ca:o.cls = .type x) (cb:u.cls = .type y) (n:x≠y:=by decide):a≠b:=fun q=>by
  subst q;rw [e] at e';cases e';rw [ca] at cb;injection cb with cb;exact n cb
theorem Inv.sq_ne {b:Bool} (I:Inv X pins σ H s) (h:SqB X.K b H l xs) (f:FpOk X pins H c):l≠c:=by
  have key:(∃u,H l=some u)∨∃o,X.K.lookup l=some o:=by
    cases b
    · rcases h with (h | ⟨o,h⟩) | ⟨o,_,_,h,_⟩
      · exact .inl ⟨_,h⟩
      · exact .inl ⟨_,h⟩
      · exact .inr ⟨o,h⟩
    · rcases h with (h | ⟨o,h⟩) | ⟨o,_,_,h,_⟩
      · exact .inl ⟨_,h⟩
      · exact .inl ⟨_,h⟩
      · exact .inr ⟨o,h⟩
  intro q
  subst q
  rcases key with ⟨u,e⟩ | ⟨o,e⟩
  · rw [f.1] at e;cases e
  · have eb:=I.ok.mod.kin l o e
    rcases f.2.2.2.1 with z|z
    · exact I.ok.noex l o eb z
    · have l1:X.base.objs.size≥Nat.succ l:=Heap.lt_size eb
      have l2:X.base.objs.size≤X.s₀.heap.objs.size:=I.ok.bsz
      have l3:X.s₀.heap.objs.size≤l:=z
      lia
end L2
end
section
namespace L2
open PySem PySem.Spec PyProof.Rows
end L2
end
section
namespace L2
open PySem PySem.Spec PyProof.Rows
noncomputable def Ite (K:PySem.W.Frag) (b:Bool) (l:Addr):It :=
  ⟨fun i H=>Ex2 fun xs x=>SqB K b H l xs∧xs[i]?=some x,
   fun i H v H'=>Ex2 fun T x=>v = .ref T∧H T=none∧H'=upd H T (.tup [.int i,x])∧(∀xs,SqB K b H l xs→xs[i]?=some x),
   fun i H=>∃xs,SqB K b H l xs∧xs.length≤i⟩
theorem zgK {P:Program} {w:World} {A:Around} (b:Bool) {a l:Addr} {xs:Array Value} (hh:A.handled=none) (ne:l≠a):Draws P w A a [a,l] xs.size (fun i v=>xs[i]?=some v) (fun k h=>zdd b h a l k∧zcL b h l xs) where
  live:=fun k h z=>let ⟨o,e,_⟩:=(subB (P:=P) (w:=w) b hh ne).obj k h z;⟨o,e⟩
  frame:=fun k h h' z q=>(subB (P:=P) (w:=w) b hh ne).keep k h h' z q
  item:=fun k s Q E hk z q=>by
    have hx:xs[k]?=some xs[k]:=Array.getElem?_eq_getElem hk
    exact (subB (P:=P) (w:=w) b hh ne).item k xs[k] s Q E z hx fun h' a1 a2=>q xs[k] h' s.toks hx a1 a2
  done:=fun s Q E z q=>(subB (P:=P) (w:=w) b hh ne).stop xs.size s Q E z (Array.getElem?_eq_none (Nat.le_refl _)) q
structure ESt (b:Bool) (e it l:Addr) (k:Nat) (h:Heap):Prop where
  en:∃old,IsEnum h e it k old
  it:zdd b h it l k
theorem ze6 {P:Program} {w:World} {K:PySem.W.Frag} {elts:List Expr} {kk:Nat} {tpos:Pos} (b:Bool) (e it l:Addr) :
    Turn P w K (.Tuple elts kk tpos) (Ite K b l) [e,it] e (ESt b e it l) where
  mem:=List.mem_cons_self
  obj:=fun k h S c hc=>by
    obtain ⟨old,he⟩:=S.en
    obtain ⟨o1,e1,d1,_⟩:=zdG S.it
    simp only [List.mem_cons,List.not_mem_nil,or_false] at hc
    rcases hc with rfl|rfl
    · exact ⟨_,he,fun v q=>by cases q⟩
    · exact ⟨o1,e1,d1⟩
  keep:=fun k h h' S q=>by
    obtain ⟨old,he⟩:=S.en
    exact ⟨⟨old,q e (by simp) _ he⟩,yd8 S.it fun o x=>q it (by simp) o x⟩
  item:=by
    intro X hP hw hK hc i pins s σ H E I hf S hg
    subst hP hw hK
    obtain ⟨xs,x,h1,ex⟩:=hg
    obtain ⟨us,r1,p1,z1⟩:=I.seqB h1
    obtain ⟨u,eu,ru⟩:=r1.get ex
    obtain ⟨old,he⟩:=S.en
    obtain ⟨o1,e1,_,c1⟩:=zdG S.it
    have hh:X.A.handled=none:=I.ok.hd hc
    have nl:∀c∈[e,it],l≠c:=fun c hc=>I.sq_ne h1 (hf c hc)
    have ei:e≠it:=by rcases c1 with c|c <;> exact zg8 he e1 rfl c
    have ilt:i<us.toArray.size:=by
      have:=(List.getElem?_eq_some_iff.mp eu).1
      simpa using this
    refine wpAny_pyNext_enum_itemD (zgK b (A:=X.A.in1) hh (nl it (by simp))) he ⟨S.it,p1⟩ ilt ei (by simp only [List.mem_cons,List.not_mem_nil,or_false,not_or];exact ⟨ei,Ne.symm (nl e (by simp))⟩) fun y g tk hy a1 a2 a3 a4 a5=>?_
    have ey:y=u:=by
      have q1:us[i]?=some y:=by simpa using hy
      rw [eu] at q1;cases q1;rfl
    subst ey
    refine ⟨_,rfl,wpAny_letOwnedTupleGo_enum (s:={ s with heap:=g,toks:=tk+1 }) a1 fun g' he' t=>?_⟩
    have lt:∀ {c:Addr} {o:Obj},s.heap.get? c=some o→s.heap.objs.size≠c:=fun q=>Nat.ne_of_gt (Heap.lt_size q)
    have k':∀c o,c∉[e,it]→s.heap.get? c=some o→g'.get? c=some o:=fun c o hc q=>by
      simp only [List.mem_cons,List.not_mem_nil,or_false,not_or] at hc
      exact t.extBut c o hc.1 (a5 c o hc.1 hc.2 q)
    have hS':ESt b e it l (i+1) g':=⟨⟨_,by simpa using he'⟩,yd8 a2.1 fun o q=>t.extBut _ _ (Ne.symm ei) q⟩
    have fT:H s.heap.objs.size=none:=I.hok.fresh (Nat.le_refl _)
    have J:Inv X pins σ (upd H s.heap.objs.size (.tup [.int i,x])) { s with heap:=g',toks:=tk+1 } :=
      I.turnedT (t':=tk+1) (fp:=[e,it]) hf k' (Nat.le_refl _) (by show 2≤sizeLine;decide) (its:=#[.int i tk,y]) (.cons ⟨_,rfl⟩ (.cons ru .nil)) ⟨_,t.extBut _ _ (lt he) a3,rfl,_,rfl⟩
    refine ⟨.ref s.heap.objs.size,upd H s.heap.objs.size (.tup [.int i,x]),J,rfl,⟨_,x,rfl,fT,rfl,fun xs' hx'=>by rw [I.seqB_inj hx' h1];exact ex⟩,hS',fun c hc=>?_⟩
    have fobj:∃o,s.heap.get? c=some o:=by
      simp only [List.mem_cons,List.not_mem_nil,or_false] at hc
      rcases hc with rfl|rfl
      · exact ⟨_,he⟩
      · exact ⟨_,e1⟩
    obtain ⟨o,eo⟩:=fobj
    rw [yad (Ne.symm (lt eo))]
    exact (hf c hc).1
  done:=by
    intro X hP hw hK hc i pins s σ H E I hf S hg
    subst hP hw hK
    obtain ⟨xs,h1,le⟩:=hg
    obtain ⟨us,r1,p1,z1⟩:=I.seqB h1
    obtain ⟨old,he⟩:=S.en
    have hh:X.A.handled=none:=I.ok.hd hc
    have nl:∀c∈[e,it],l≠c:=fun c hc=>I.sq_ne h1 (hf c hc)
    have D:=subB (P:=X.prog) (w:=X.w) b (A:=X.A.in1) (xs:=us.toArray) hh (nl it (by simp))
    have hT:s.TypeIs (.ref e) "enumerate":=⟨_,he,rfl⟩
    unfold pyNext
    refine wpAny_bind (wpAny_attempt (wpAny_callSpecial?_slot (name:=Str.ofString "__next__") hT F.slot_enumerate_next (wpAny_call_entry F.slot_enumerate_next hT F.entry_enumerate_next ?_ (F.args_enumerate_next_1 _))))
    show wpAny _ _ (field (.ref e) 2 >>= _) _ _ s;refine wpAny_bind (wpAny_field he rfl (x:=.ref it) rfl ?_)
    refine wpAny_bind (D.stop i _ _ _ ⟨S.it,p1⟩ (by have:=r1.length;simp;lia) fun g x t hq=>?_)
    obtain ⟨o,ho,hce⟩:=hq
    refine wpAny_bind (wpAny_isInstance (T:="StopIteration") (b:=true) ⟨o,ho,hce⟩ isSubtype_stop (wpAny_pure ⟨rfl,?_⟩))
    refine I.turnedL (t':=s.toks) (fp:=[e,it]) hf fun c o hc q=>?_
    simp only [List.mem_cons,List.not_mem_nil,or_false,not_or] at hc
    exact t c o hc.2 q
  self:=fun A i s Q E S h=>let ⟨_,he⟩:=S.en;wpAny_pyIter_enum he h
theorem zdN (b:Bool) (l:Addr) (xs:Array Value) (n:Nat) (dct:Option Addr) (sl:Array (Option Value)) :
    Meets (Builtin.«enumerate.__new__» ⟨[.type "enumerate",.ref l],[]⟩) (fun _ R s=>s.heap.get? l=some { cls:=.type (if b then "tuple" else "list"),dict:=dct,data:=.seq xs n,slots:=sl }∧R (.ok (.ret (.ref (s.heap.push (zc3 b l)).objs.size))) { s with heap:=(s.heap.push (zc3 b l)).push { cls:=.type "enumerate",data:=.fields #[.none,.bool false,.ref s.heap.objs.size,rawInt 0,.none,.none] } }) :=
  .of_wp fun prog w A R s h=>by
    obtain ⟨hp,g,d,tk,os⟩:=s;obtain ⟨hl,h⟩:=h
    have hsub:=sub_enumerate
    have hL:zcL b (Shared.heap ⟨hp,g,d,tk,os⟩) l xs:=by cases b <;> exact ⟨_,hl,rfl,n,rfl⟩
    wp_walk using wpAny_loadPart' hl;(refine wpAny_stack_any fun st=>wpAny_pure ?_);split
    · rename_i c _ _ _ _ _;cases (c==Value.type "enumerate") <;> (wp_walk using wpAny_loadPart' hl,yea hL;exact ⟨_,rfl,h⟩)
    · wp_walk using wpAny_loadPart' hl,yea hL;exact ⟨_,rfl,h⟩
theorem ydT {b:Bool} (x:zcL b h l xs):Ex3 fun n dct sl=>h.get? l=some { cls:=.type (if b then "tuple" else "list"),dict:=dct,data:=.seq xs n,slots:=sl }:=by
  cases b <;> obtain ⟨⟨c,dct,dt,sl⟩,e,hc,n,hd⟩:=x
  · replace hc:c = .type "list":=hc
    replace hd:dt = .seq xs n:=hd
    subst hc hd;exact ⟨n,dct,sl,e⟩
  · replace hc:c = .type "tuple":=hc
    replace hd:dt = .seq xs n:=hd
    subst hc hd;exact ⟨n,dct,sl,e⟩
section
variable {X:Cx}
noncomputable def yhg (K:PySem.W.Frag) (ta:TA):TI:=fun σ H R=>ta σ H fun vs H1=>Ex2 fun b a=>vs=[.ref a]∧(∃xs,SqB K b H1 a xs)∧R (Ite K b a) H1
theorem zgB {R:It→Hp→Prop} {kk:Nat} {b:Bool} (I:Inv X pins σ H s) (h1:SqB X.K b H l xs) (q:R (Ite X.K b l) H) :
    wpAny (model X.prog X.w) X.A (call (.type "enumerate") [.ref l]) (fun v s1=>wpAny (model X.prog X.w) X.A (pyIter v) (PIE X pins σ (.Tuple elts kk tpos) R) X.xe s1) X.xe s:=by
  obtain ⟨us,r1,p1,z1⟩:=I.seqB h1
  obtain ⟨m,dct,sl,hl⟩:=ydT p1
  refine callType_new F.called_enumerate (by decide) (F.typeCall_enumerate_1 _) (F.newCall_enumerate_1 _) (fun obj=>F.args_object_init_2 obj _) F.entry_enumerate_new (zdN b l us.toArray m dct sl) ⟨hl,?_⟩
  generalize hn:s.heap.objs.size=n
  have s1:(s.heap.push (zc3 b l)).objs.size=n+1:=by rw [Heap.size_push,hn]
  generalize hG:(s.heap.push (zc3 b l)).push { cls:=.type "enumerate",data:=.fields #[.none,.bool false,.ref n,rawInt 0,.none,.none] }=G
  have old:∀c o,s.heap.get? c=some o→G.get? c=some o:=fun c o e=>hG ▸ Heap.get?_push_of_some _ (Heap.get?_push_of_some _ e)
  have ge:IsEnum G (n+1) n 0 .none:=by
    have e:G.get? (s.heap.push (zc3 b l)).objs.size=some { cls:=.type "enumerate",data:=.fields #[.none,.bool false,.ref n,rawInt 0,.none,.none] }:=hG ▸ Heap.get?_push_size _ rfl
    rw [s1] at e;exact e
  have gi:G.get? n=some (zc3 b l):=by
    have e:G.get? s.heap.objs.size=some (zc3 b l):=hG ▸ Heap.get?_push_of_some _ (Heap.get?_push_size _ rfl)
    rw [hn] at e;exact e
  rw [s1]
  refine ⟨⟨_,ge,rfl⟩,wpAny_pyIter_enum ge ?_⟩
  have I1:Inv X pins σ H { s with heap:=G }:=I.kept (t':=s.toks) old
  refine ⟨n+1,[n+1,n],_,_,H,rfl,I1,ze6 b (n+1) n l,⟨⟨_,ge⟩,yeH _ _ _ _ gi⟩,fun c hc=>?_,q⟩
  have le:s.heap.objs.size≤c:=by
    rw [hn]
    simp only [List.mem_cons,List.not_mem_nil,or_false] at hc
    show @LE.le Nat _ n c
    rcases hc with e|e <;> (have e':@Eq Nat c _:=e;lia)
  exact I.fpOk le (I.hok.fresh le)
theorem zdk {a:Expr} {ta:TA} {p pos:Pos} {elts:List Expr} {kk:Nat} {tpos:Pos} (hg:Gl X "enumerate") (hm:X.mg "enumerate"=none) (ha:PA X [a] ta) (hs:starEach [a] X.env=[(false,eval a X.env)]:=by rfl) :
    PI X (.Tuple elts kk tpos) (.Call (.Name "enumerate" p) [a] [] pos) (yhg X.K ta):=by
  intro pins s σ H R I h
  refine Call_ (zbk I hg hm (u:=.type "enumerate") boot_enumerate (PyProof.Rows.callWith_type1 (thn (ha pos pins s σ H _ I h) fun us s1 ⟨vs,H1,I1,r1,q1⟩=>?_) hs rfl))
  obtain ⟨b,a,e,⟨xs,h1⟩,q⟩:=q1
  subst e
  cases r1 with
  | cons r rr =>
    cases rr
    cases r
    exact zgB I1 h1 q
end
structure Seqs (J:It) (n:Nat) (G:Hp→Prop) (y:Nat→V→Hp→Hp→Prop):Prop where
  go:∀i H,i<n→G H→J.go i H
  stop:∀H,G H→J.stop n H
  yld:∀i H x H',i<n→G H→J.yld i H x H'→y i x H H'
theorem ybR {K:PySem.W.Frag} {xs:List V}:Seqs (Itl K a) xs.length (fun H=>SqL K H a xs) (fun i x H H'=>H'=H∧xs[i]?=some x) :=
  ⟨fun i H hi g=>⟨xs,xs[i],g,by simp [hi]⟩,fun H g=>⟨xs,g,Nat.le_refl _⟩,fun i H x H' hi g q=>⟨q.1,q.2 xs g⟩⟩
theorem zbx {K:PySem.W.Frag} {xs:List V}:Seqs (Itt K a) xs.length (fun H=>SqT K H a xs) (fun i x H H'=>H'=H∧xs[i]?=some x) :=
  ⟨fun i H hi g=>⟨xs,xs[i],g,by simp [hi]⟩,fun H g=>⟨xs,g,Nat.le_refl _⟩,fun i H x H' hi g q=>⟨q.1,q.2 xs g⟩⟩
theorem zbB {lo:Int} {n:Nat}:Seqs (Itr lo n) n (fun _=>True) (fun i x H H'=>H'=H∧x = .int (lo+i)) :=
  ⟨fun i H hi _=>hi,fun H _=>Nat.le_refl _,fun i H x H' hi _ q=>q⟩
theorem ybK {K:PySem.W.Frag} {b:Bool} {l:Addr} {xs:List V}:Seqs (Ite K b l) xs.length (fun H=>SqB K b H l xs)
    (fun i x H H'=>Ex2 fun T u=>x = .ref T∧xs[i]?=some u∧H T=none∧H'=upd H T (.tup [.int i,u])) :=
  ⟨fun i H hi g=>⟨xs,xs[i],g,by simp [hi]⟩,fun H g=>⟨xs,g,Nat.le_refl _⟩,fun i H x H' hi g ⟨T,u,e1,e2,e3,e4⟩=>⟨T,u,e1,e4 xs g,e2,e3⟩⟩
theorem ycx {J:It} {n:Nat} {G:Hp→Prop} {y:Nat→V→Hp→Hp→Prop} (S:Seqs J n G y) {g:TG} {tb:TS} {D:Ends} {σ:St} {H:Hp} (Pv:Nat→St→Hp→Prop) (h0:Pv 0 σ H) (hl:∀i σ H,i≤n→Pv i σ H→G H)
    (hs:∀i x σ H H',i<n→Pv i σ H→y i x H H'→g x σ H' fun σ2 H2=>tb { D with nx:=Pv (i+1),ct:=Pv (i+1),bk:=D.nx } σ2 H2) (hd:∀σ H,Pv n σ H→D.nx σ H) :
    ∃W:Nat→Nat→St→Hp→Prop,(∃m,W 0 m σ H)∧∀i m σ H,W i m σ H→
      (J.stop i H∧D.nx σ H)∨(J.go i H∧∃N:St→Hp→Prop,(∀σ' H',N σ' H'→∃m',m'<m∧W (i+1) m' σ' H')∧∀x H',J.yld i H x H'→g x σ H' fun σ2 H2=>tb { D with nx:=N,ct:=N,bk:=D.nx } σ2 H2):=by
  refine ⟨fun i m σ H=>m=n-i∧i≤n∧Pv i σ H,⟨n,by simp,Nat.zero_le _,h0⟩,?_⟩
  rintro i m σ H ⟨rfl,hi,p⟩
  by_cases hlt:i<n
  · exact .inr ⟨S.go i H hlt (hl i σ H hi p),Pv (i+1),fun σ' H' p'=>⟨n-(i+1),by lia,rfl,hlt,p'⟩,fun x H' q=>hs i x σ H H' hlt p (S.yld i H x H' hlt (hl i σ H hi p) q)⟩
  · have e:i=n:=by lia
    subst e
    exact .inl ⟨S.stop H (hl _ σ H hi p),hd σ H p⟩
theorem yav {J:It} {n:Nat} {G:Hp→Prop} {y:Nat→V→Hp→Hp→Prop} (S:Seqs J n G y) {σc:St} {g:TG} {ti:TT} {te:TE} {H:Hp} {Fn:List V→Hp→Prop} (Pv:Nat→List V→Hp→Prop) (h0:Pv 0 [] H) (hl:∀i acc H,i≤n→Pv i acc H→G H)
    (hz:∀i acc H,i<n→Pv i acc H→acc.length<sizeLine)
    (hs:∀i acc x H H',i<n→Pv i acc H→y i x H H'→g x σc H' fun σ2 H2=>ti σ2 H2 fun b H3=>if b=true then te σ2 H3 fun v H4=>Pv (i+1) (acc++[v]) H4 else Pv (i+1) acc H3)
    (hd:∀acc H,Pv n acc H→Fn acc H) :
    ∃W:zg9,(∃m,W 0 m [] H)∧∀i m acc H,W i m acc H→
      (J.stop i H∧Fn acc H)∨
      (J.go i H∧acc.length<sizeLine∧∃N:List V→Hp→Prop,(∀acc' H',N acc' H'→∃m',m'<m∧W (i+1) m' acc' H')∧∀x H',J.yld i H x H'→g x σc H' fun σ2 H2=>ti σ2 H2 fun b H3=>if b=true then te σ2 H3 fun v H4=>N (acc++[v]) H4 else N acc H3):=by
  refine ⟨fun i m acc H=>m=n-i∧i≤n∧Pv i acc H,⟨n,by simp,Nat.zero_le _,h0⟩,?_⟩
  rintro i m acc H ⟨rfl,hi,p⟩
  by_cases hlt:i<n
  · exact .inr ⟨S.go i H hlt (hl i acc H hi p),hz i acc H hlt p,Pv (i+1),fun acc' H' p'=>⟨n-(i+1),by lia,rfl,hlt,p'⟩,fun x H' q=>hs i acc x H H' hlt p (S.yld i H x H' hlt (hl i acc H hi p) q)⟩
  · have e:i=n:=by lia
    subst e
    exact .inl ⟨S.stop H (hl _ acc H hi p),hd acc H p⟩
end L2
end
section
namespace L2
open PySem PySem.Spec PyProof.Rows
section
variable {X:Cx}
def CDv (i j:Int):Prop:=0<j∧j<2^64
theorem CDv.log {i j:Int} (h:CDv i j):j.natAbs.log2<9000:=by
  obtain ⟨h1,h2⟩:=h
  have h0:j.natAbs≠0:=by lia
  have:j.natAbs<2^64:=by lia
  exact Nat.lt_of_lt_of_le ((Nat.log2_lt h0).mpr this) (by decide)
theorem ydy:OpR X (binaryOp .FloorDiv) (rI CDv fun i j=>.int (i/j)):=opI fun i j _ _ _ _ _ hc q=>by
  have h1:(0:Int)<j:=hc.1
  exact floordiv_int (by lia) (by rw [Int.fdiv_eq_ediv_of_nonneg i (by lia)];exact q) (.inl (PyProof.noPylong_of_log2 hc.log))
def CDvB (i j:Int):Prop:=0<j∧j<2^1000
theorem CDvB.log {i j:Int} (h:CDvB i j):j.natAbs.log2<9000:=by
  obtain ⟨h1,h2⟩:=h
  have h0:j.natAbs≠0:=by lia
  have:j.natAbs<2^1000:=by lia
  exact Nat.lt_of_lt_of_le ((Nat.log2_lt h0).mpr this) (by decide)
theorem zgE:OpR X (binaryOp .FloorDiv) (rI CDvB fun i j=>.int (i/j)):=opI fun i j _ _ _ _ _ hc q=>by
  have h1:(0:Int)<j:=hc.1
  exact floordiv_int (by lia) (by rw [Int.fdiv_eq_ediv_of_nonneg i (by lia)];exact q) (.inl (PyProof.noPylong_of_log2 hc.log))
theorem zcz:OpR X (inplaceOp .FloorDiv) (rI CDv fun i j=>.int (i/j)):=opI fun i j _ _ _ _ _ hc q=>by
  have h1:(0:Int)<j:=hc.1
  exact ifloordiv_int (by lia) (by rw [Int.fdiv_eq_ediv_of_nonneg i (by lia)];exact q) (.inl (PyProof.noPylong_of_log2 hc.log))
theorem ygr:OpR X (binaryOp .Mult) (rI IntMulOk fun i j=>.int (i*j)):=opI fun _ _ _ _ _ _ _ hc q=>mul_int q hc
noncomputable def rNeE (K:PySem.W.Frag):R2:=fun x y H Q=>Ex3 fun a b xs=>x = .ref a∧y = .ref b∧SqL K H a xs∧SqL K H b []∧Q (.bl (!xs.isEmpty)) H
theorem yeM (hu:X.A.units<cLine):OpR X (compareOp .NotEq) (rNeE X.K):=by
  intro pins s σ H x y v u Q I rx ry h
  obtain ⟨a,b,xs,rfl,rfl,ha,hb,q⟩:=h
  cases rx;cases ry
  obtain ⟨us,r1,p1,z1⟩:=I.list ha
  obtain ⟨vs,r2,p2,z2⟩:=I.list hb
  cases r2
  cases xs with
  | nil =>
    cases r1
    exact SeqAt.RcNeAt.lists (e:=fun _=>true) p1.isList p2.isList rfl hu (fun j h1 _=>absurd h1 (by simp)) _ _ _ _ ⟨.bl false,H,I,rfl,q⟩
  | cons x xs =>
    cases r1
    exact SeqAt.RcNeAt.lists_lengths p1.isList p2.isList (by simp) hu _ _ _ _ ⟨.bl true,H,I,rfl,q⟩
noncomputable def tRev (K:PySem.W.Frag) (te:TE):TE:=fun σ H Q=>te σ H fun x H1=>Ex2 fun a xs=>x = .ref a∧SqL K H1 a xs∧∀p,H1 p=none→Q (.ref p) (upd H1 p (.lst xs.reverse))
theorem zg7 {e:Expr} {te:TE} {p0 p1 p2 pos:Pos} {j} (he:PE X e te):PE X (.Subscript e (.Slice none none (some (.UnaryOp .USub (.Constant (.int 1) j p0) p1)) p2) pos) (tRev X.K te):=by
  intro pins s σ H Q I h
  refine Subscript_ (thn (he pins s σ H _ I h) fun v s1 hq=>?_)
  obtain ⟨x,H1,I1,r1,q1⟩:=hq
  obtain ⟨a,xs,rfl,hx,q⟩:=q1
  cases r1
  refine wpAny_Slice ?_
  rw [evalPart_none]
  refine wpAny_pure ?_
  refine wpAny_pure ?_
  rw [evalPart_some]
  refine thn ((zch zbw (zaa (X:=X))) pins s1 σ H1 (fun v H'=>v = .int (-1)∧H'=H1) I1 ⟨1,rfl,rfl,rfl⟩) fun st s2 hq=>?_
  obtain ⟨v,H2,I2,r2,e1,e2⟩:=hq
  subst e1 e2
  obtain ⟨t,rfl⟩:=r2
  have I4:Inv X pins σ H2 { s2 with heap:=s2.heap.push { cls:=.type "slice",data:=.fields #[.none,.none,.int (-1) t] } }:=I2.kept (t':=s2.toks) fun b ob q=>Heap.get?_push_of_some _ q
  obtain ⟨its,r,ht,hz⟩:=I4.list hx
  have hlen:=r.length
  show wpAny (model X.prog X.w) X.A (subscriptTail e _ (.ref a) (.ref s2.heap.objs.size)) (EP X pins σ Q) X.xe { s2 with heap:=s2.heap.push { cls:=.type "slice",data:=.fields #[.none,.none,.int (-1) t] } }
  refine tail_any (ops:=[.ref a,.ref s2.heap.objs.size]) ht.isList.typeIs slot_list_getitem.lookup ?_ (by with_unfolding_all rfl)
  refine wpAny_getItem_list_slice ht.isList (Heap.IsSliceOf.new ..) .none .none (.int (-1) t) (by simp) ?_ (by rw [List.size_toArray];lia)
  rw [PySem.W.krv_pick]
  refine ⟨.ref _,_,I4.laid (t':=s2.toks) (o:=.lst xs.reverse) (fun b ob q=>Heap.get?_push_of_some _ q) (Nat.le_refl _) ?_,rfl,q _ (I4.hok.fresh (Nat.le_refl _))⟩
  exact ⟨by rw [List.length_reverse];exact hz,its.reverse,0,r.reverse,Heap.get?_push_size _ rfl⟩
theorem ycK:∀ {bs:List Bool} {us:List Value},Vals (bs.map V.bl) us→us=bs.map Value.bool
  | [],_,.nil=>rfl
  | b::bs,_,.cons r t=>by cases r;rw [ycK t];rfl
theorem zeJ (bs:List Bool):(List.range bs.length).all (fun i=>bs.getD i true)=bs.all id:=by
  induction bs with
  | nil=>rfl
  | cons b bs ih =>
    rw [List.length_cons,List.range_succ_eq_map,List.all_cons,List.all_cons,List.all_map]
    show ((b::bs).getD 0 true&&_)=_
    rw [List.getD_cons_zero]
    congr 1
noncomputable def yhf (K:PySem.W.Frag) (f:List Bool→Bool):List V→Hp→VK→Prop:=fun xs H Q=>Ex2 fun a bs=>xs=[.ref a]∧SqL K H a (bs.map V.bl)∧Q (.bl (f bs)) H
theorem ydM {bs:List Bool}:TruthOf P w A (fun i v=>(bs.map Value.bool).toArray[i]?=some v) (fun i=>bs.getD i true):=by
  intro i v s Q E hv q
  have hv':bs[i]?.map Value.bool=some v:=by simpa using hv
  cases e:bs[i]? with
  | none=>rw [e] at hv';cases hv'
  | some b =>
    rw [e] at hv';cases hv'
    have e2:bs.getD i true=b:=by simp [List.getD,e]
    have q':Q (bs.getD i true) s:=q
    rw [e2] at q'
    exact wpAny_truthy_bool q'
theorem ybC (hc:X.calm=true):zaY X (.builtin "all") (yhf X.K fun bs=>bs.all id):=by
  intro pins s σ H xs us Q I r h
  obtain ⟨a,bs,rfl,ha,q⟩:=h
  obtain ⟨u,rfl,rx⟩:=zcH r
  cases rx
  obtain ⟨its,r1,p1,z1⟩:=I.list ha
  have e:=ycK r1
  subst e
  refine call_all_walk (wpAny_pyIter_list p1.isList ?_)
  have hh:X.A.in1.handled=none:=I.ok.hd hc
  have ne:a≠s.heap.objs.size:=fun z=>by obtain ⟨o,n,e,_⟩:=p1;have l:s.heap.objs.size≥Nat.succ a:=Heap.lt_size e;have z':@Eq Nat a s.heap.objs.size:=z;lia
  refine ⟨_,_,_,_,_,_,_,rfl,Walks.list hh s.heap.objs.size a ne _,⟨⟨_,Heap.get?_push_size _ rfl,rfl,rfl⟩,p1.isList.push _⟩,ydM,fun h' tk k=>?_⟩
  have I1:Inv X pins σ H { s with heap:=h',toks:=tk }:=I.kept fun b o e=>k b o (by simp only [List.mem_singleton];exact Nat.ne_of_lt (Heap.lt_size e)) (Heap.get?_push_of_some _ e)
  refine ⟨.bl _,H,I1,?_,q⟩
  show Value.bool _=Value.bool _
  congr 1
  have:=zeJ bs
  simpa using this
noncomputable def yfn (K:PySem.W.Frag) (H:Hp):V→String→Prop
  | .non,T=>T = "NoneType"
  | .bl _,T=>T = "bool"
  | .int _,T=>T = "int"
  | .str _,T=>T = "str"
  | .ref a,T=>(T = "list"∧∃xs,SqL K H a xs)∨(T = "tuple"∧∃xs,SqT K H a xs)
  | _,_=>False
def subK (T U:String):Bool:=T==U||(T=="bool"&&U=="int")
noncomputable def rIsi (K:PySem.W.Frag) (U:String):List V→Hp→VK→Prop:=fun xs H Q=>Ex2 fun x T=>xs=[x,.ty U]∧yfn K H x T∧Q (.bl (subK T U)) H
theorem ybH {T U:String} (h:subK T U=false):(Value.type T==Value.type U)=false:=by
  have:T≠U:=fun e=>by subst e;simp [subK] at h
  simpa using this
theorem ycY {U:String} (hty:typeOf (.type U)=pure (.type "type")) (hs:∀T∈["NoneType","bool","int","str","list","tuple"],isSubtype (.type T) (.type U)=pure (subK T U)):zaY X (.builtin "isinstance") (rIsi X.K U):=by
  intro pins s σ H xs us Q I r h
  obtain ⟨x,T,rfl,hk,q⟩:=h
  obtain ⟨u,w',rfl,rx,ry⟩:=zfK r
  cases ry
  have yes:∀ {v:Value},subK T U=true→s.TypeIs v T→T∈["NoneType","bool","int","str","list","tuple"]→wpAny (model X.prog X.w) X.A (call (.builtin "isinstance") [v,.type U]) (EP X pins σ Q) X.xe s:=fun {v} hb ht hm =>
    call_isinstance_yes ht hty (by rw [hs T hm,hb]) ⟨.bl true,H,I,rfl,by rw [←hb];exact q⟩
  have no:∀t,subK T U=false→EP X pins σ Q (.bool false) { s with toks:=t }:=fun t hb=>⟨.bl false,H,I.tok _,rfl,by rw [←hb];exact q⟩
  cases x with
  | non =>
    cases rx;obtain rfl:T = "NoneType":=hk
    cases hb:subK "NoneType" U with
    | true=>exact yes hb rfl (by simp)
    | false=>exact call_isinstance (isinstance_false_none (ybH hb) hty (by rw [hs _ (by simp),hb])) (no _ hb)
  | bl b =>
    cases rx;obtain rfl:T = "bool":=hk
    cases hb:subK "bool" U with
    | true=>exact yes hb rfl (by simp)
    | false=>exact call_isinstance (isinstance_false_bool (ybH hb) hty (by rw [hs _ (by simp),hb])) (no _ hb)
  | int i =>
    obtain ⟨t,rfl⟩:=rx;obtain rfl:T = "int":=hk
    cases hb:subK "int" U with
    | true=>exact yes hb (typeIs_int s i t) (by simp)
    | false=>exact call_isinstance (isinstance_false_int (ybH hb) hty (by rw [hs _ (by simp),hb])) (no _ hb)
  | str i =>
    obtain ⟨t,rfl⟩:=rx;obtain rfl:T = "str":=hk
    cases hb:subK "str" U with
    | true=>exact yes hb rfl (by simp)
    | false=>exact call_isinstance (isinstance_false_str (ybH hb) hty (by rw [hs _ (by simp),hb])) (no _ hb)
  | ref a =>
    cases rx
    rcases hk with ⟨rfl,xs,hx⟩ | ⟨rfl,xs,hx⟩
    · obtain ⟨its,r1,p1,z1⟩:=I.list hx
      cases hb:subK "list" U with
      | true=>exact yes hb p1.isList.typeIs (by simp)
      | false=>exact call_isinstance (isinstance_false_list (ybH hb) hty (by rw [hs _ (by simp),hb])) ⟨let ⟨o,e,c,_⟩:=p1.isList;⟨o,e,c⟩,no _ hb⟩
    · obtain ⟨its,r1,p1,z1⟩:=I.tuple hx
      cases hb:subK "tuple" U with
      | true=>exact yes hb (show s.TypeIs (.ref a) "tuple" from let ⟨o,e,c,_⟩:=p1;⟨o,e,c⟩) (by simp)
      | false=>exact call_isinstance (isinstance_false_tuple (ybH hb) hty (by rw [hs _ (by simp),hb])) ⟨let ⟨o,e,c,_⟩:=p1;⟨o,e,c⟩,no _ hb⟩
  | _=>exact False.elim hk
theorem ygd:zaY X (.builtin "isinstance") (rIsi X.K "int"):=ycY (by rfl) (by intro T hT;simp only [List.mem_cons,List.not_mem_nil,or_false] at hT;rcases hT with rfl|rfl|rfl|rfl|rfl|rfl <;> (rw [isSubtype_type];kernel_rfl))
theorem zfS:zaY X (.builtin "isinstance") (rIsi X.K "bool"):=ycY (by rfl) (by intro T hT;simp only [List.mem_cons,List.not_mem_nil,or_false] at hT;rcases hT with rfl|rfl|rfl|rfl|rfl|rfl <;> (rw [isSubtype_type];kernel_rfl))
theorem zfb:zaY X (.builtin "isinstance") (rIsi X.K "tuple"):=ycY (by rfl) (by intro T hT;simp only [List.mem_cons,List.not_mem_nil,or_false] at hT;rcases hT with rfl|rfl|rfl|rfl|rfl|rfl <;> (rw [isSubtype_type];kernel_rfl))
def Itd (hi:Int) (n:Nat):It:=⟨fun i _=>i<n,fun i H x H'=>H'=H∧x = .int (hi-i),fun i _=>n≤i⟩
theorem ye6 {P:Program} {w:World} {K:PySem.W.Frag} {tg:Expr} (it:Addr) (hi:Int) (n:Nat):Turn P w K tg (Itd hi n) [it] it (fun i h=>IsRangeIter h it (hi+(i:Nat)*(-1)) ((n:Int)-(i:Nat)) (-1)) where
  mem:=by simp
  obj:=fun i h st b hb=>by
    have e:b=it:=by simpa using hb
    subst e
    exact ⟨_,st,fun v z=>by have z':Data.fields _=Data.cell v:=z;cases z'⟩
  keep:=fun i h h' st k=>k it (by simp) _ st
  item:=by
    intro X hP hw hK hc i pins s σ H E I hf st hg
    subst hP hw hK
    obtain ⟨f0,f1,f2,f3,f4,f5⟩:=hf it (by simp)
    have W:=Walks.range (prog:=X.prog) (w:=X.w) (I.ok.hd hc) it hi (-1) n
    refine W.item i s _ _ hg st fun v h' tk hv st' kk=>?_
    obtain ⟨t,rfl⟩:=hv
    have I1:Inv X pins σ H { s with heap:=h',toks:=tk }:=I.turned (fun b o hb e=>kk b o (by simpa using hb) e) f0 f1 f3 f4 f5
    refine ⟨_,rfl,zfJ (s:={ s with heap:=h',toks:=tk }) (n:="range_iterator") st' rfl rfl (by decide) ⟨.int (hi-i),H,I1,⟨t,?_⟩,⟨rfl,rfl⟩,st',fun b hb=>(hf b hb).1⟩⟩
    congr 1;lia
  done:=by
    intro X hP hw hK hc i pins s σ H E I hf st hg
    subst hP hw hK
    obtain ⟨f0,f1,f2,f3,f4,f5⟩:=hf it (by simp)
    exact wpAny_pyNext_range_end (I.ok.hd hc) st (by have:n≤i:=hg;lia) fun h' eb=>⟨rfl,I.turned (t':=s.toks) (fun b o hb e=>eb b o hb e) f0 f1 f3 f4 f5⟩
  self:=fun _ _ _ _ _ st h=>wpAny_pyIter_rangeiter st h
theorem zeM {hi:Int} {n:Nat}:Seqs (Itd hi n) n (fun _=>True) (fun i x H H'=>H'=H∧x = .int (hi-i)) :=
  ⟨fun i H hi _=>hi,fun H _=>Nat.le_refl _,fun i H x H' hi _ q=>q⟩
noncomputable def zhe (ta:TA):TI:=fun σ H R=>ta σ H fun vs H1=>Ex2 fun (i j:Int)=>vs=[.int i,.int j,.int (-1)]∧(-(2^62)≤i∧i<2^62∧-(2^62)≤j∧j<2^62)∧R (Itd i (i-j).toNat) H1
theorem zgs {a b c:Expr} {ta:TA} {tg:Expr} {p pos:Pos} (hg:Gl X "range") (hm:X.mg "range"=none) (ha:PA X [a,b,c] ta) (hs:starEach [a,b,c] X.env=(false,eval a X.env)::starEach [b,c] X.env:=by rfl) (hs2:(backTo pos (starEach [b,c] X.env)).any (·.1)=false:=by rfl) :
    PI X tg (.Call (.Name "range" p) [a,b,c] [] pos) (zhe ta):=by
  intro pins s σ H R I h
  refine Call_ (zbk I hg hm boot_range (PyProof.Rows.callWith_type1 (thn (ha pos pins s σ H _ I h) fun us s1 ⟨vs,H1,I1,r1,q1⟩=>?_) hs hs2))
  obtain ⟨i,j,e,⟨b1,b2,b3,b4⟩,q⟩:=q1
  subst e
  cases r1 with
  | cons r rr =>
    cases rr with
    | cons r' rr =>
      cases rr with
      | cons r'' rr =>
        cases rr
        obtain ⟨t,rfl⟩:=r
        obtain ⟨t',rfl⟩:=r'
        obtain ⟨t'',rfl⟩:=r''
        refine call_range_3 (by decide) ?_ (.inl (PyProof.noPylong_small (by decide)))
        refine wpAny_pyIter_range (IsRange.new ..) (PySem.W.small_down b1 b2 b3 b4) ?_
        generalize hG:s1.heap.push { cls:=.type "range",data:=.fields #[.int i t,.int j t',.int (-1) t''] }=G
        have I2:Inv X pins σ H1 { s1 with heap:=G }:=I1.kept (t':=s1.toks) fun b o e=>hG ▸ Heap.get?_push_of_some _ e
        refine ⟨G.objs.size,[G.objs.size],_,_,H1,rfl,I2.kept (t':=s1.toks) fun b o e=>Heap.get?_push_of_some _ e,ye6 _ i (i-j).toNat,?_,fun b hb=>?_,q⟩
        · have e1:i+((0:Nat):Int)*(-1)=i:=by simp
          have e2:(((i-j).toNat:Nat):Int)-((0:Nat):Int)=Builtin.Range.rangeSize i j (-1):=by rw [PySem.W.rangeSize_downNat];simp
          show IsRangeIter _ _ (i+((0:Nat):Int)*(-1)) ((((i-j).toNat:Nat):Int)-((0:Nat):Int)) (-1)
          rw [e1,e2]
          exact Heap.get?_push_size _ rfl
        · have e:b=G.objs.size:=by simpa using hb
          subst e
          exact I2.fpOk (Nat.le_refl _) (I2.hok.fresh (Nat.le_refl _))
def tRng (ta:TA):TE:=fun σ H Q=>ta σ H fun vs H1=>∃j:Int,vs=[.int j]∧∀p,H1 p=none→Q (.ref p) (upd H1 p (.rng 0 j))
theorem zfo {a:Expr} {ta:TA} {p pos:Pos} (hg:Gl X "range") (hm:X.mg "range"=none) (ha:PA X [a] ta) (hs:starEach [a] X.env=[(false,eval a X.env)]:=by rfl):PE X (.Call (.Name "range" p) [a] [] pos) (tRng ta):=by
  intro pins s σ H Q I h
  refine Call_ (zbk I hg hm boot_range (PyProof.Rows.callWith_type1 (thn (ha pos pins s σ H _ I h) fun us s1 ⟨vs,H1,I1,r1,q1⟩=>?_) hs rfl))
  obtain ⟨j,e,q⟩:=q1
  subst e
  cases r1 with
  | cons r rr =>
    cases rr
    obtain ⟨t,rfl⟩:=r
    exact call_range_1 ⟨.ref _,_,I1.laid (o:=.rng 0 j) (fun b o e=>Heap.get?_push_of_some _ e) (Nat.le_refl _) ⟨_,_,_,Heap.get?_push_size _ rfl⟩,rfl,q _ I1.fresh⟩
def intsFrom (lo:Int) (n:Nat):List V:=(List.range n).map fun (i:Nat)=>V.int (lo+(i:Int))
theorem zci:∀ {xs:List V} {us:List Value},xs.length=us.length→(∀(i:Nat) x u,xs[i]?=some x→us[i]?=some u→RelV x u)→Vals xs us
  | [],[],_,_=>.nil
  | [],_::_,h,_=>by simp at h
  | _::_,[],h,_=>by simp at h
  | x::xs,u::us,h,g=>.cons (g 0 x u rfl rfl) (zci (by simpa using h) fun i y v e1 e2=>g (i+1) y v (by simpa using e1) (by simpa using e2))
theorem zdH {lo:Int} {n:Nat} (h:ItemsOf (fun i v=>∃t,v = .int (lo+i*1) t) acc n):Vals (intsFrom lo n) acc.toList:=by
  refine zci (by simp [intsFrom,h.1]) fun i x u e1 e2=>?_
  obtain ⟨t,rfl⟩:=h.2 i u (by simpa using e2)
  have:x=V.int (lo+i):=by
    unfold intsFrom at e1
    rw [List.getElem?_map] at e1
    cases hr:(List.range n)[i]? with
    | none=>rw [hr] at e1;cases e1
    | some j =>
      rw [hr] at e1
      have:j=i:=by
        obtain ⟨h1,h2⟩:=List.getElem?_eq_some_iff.mp hr
        simpa using h2.symm
      subst this
      exact (Option.some.inj e1).symm
  subst this
  exact ⟨t,by simp⟩
theorem zdg (hc:X.calm=true):zaY X (.type "list") (fun xs H Q=>Ex3 fun p lo hi=>xs=[.ref p]∧H p=some (.rng lo hi)∧(-(2^62)≤lo∧lo<2^62∧-(2^62)≤hi∧hi<2^62)∧(hi-lo).toNat≤sizeLine∧∀l,H l=none→Q (.ref l) (upd H l (.lst (intsFrom lo (hi-lo).toNat)))):=by
  intro pins s σ H xs us Q I r h
  obtain ⟨p,lo,hi,rfl,hp,⟨b1,b2,b3,b4⟩,hz,q⟩:=h
  obtain ⟨u,rfl,rx⟩:=zcH r
  cases rx
  obtain ⟨t,u,v,e⟩:=I.hok p _ hp
  refine call_list_range (n:=(hi-lo).toNat) (I.ok.hd hc) e (small_one b1 b2 b3 b4) (by rw [rangeSize_one];split <;> lia) (by have:=sizeLine_eq;lia) fun h' tk acc c k ho hi'=>?_
  have rv:=zdH hi'
  refine ⟨.ref _,_,I.laid (t':=tk) k (Nat.le_refl _) (show yaZ X.prog X.w _ h' _ (.lst (intsFrom lo (hi-lo).toNat)) from ⟨?_,acc.toList,c,rv,by simpa using ho⟩),rfl,q _ I.fresh⟩
  simpa [intsFrom] using hz
noncomputable def Has (P:Program) (w:World) (K:PySem.W.Frag) (mg:Str→Option Value) (base:Heap) (n:Nat) (x:Str) (ps:List Str) (sp:Sp):Prop :=
  Ex2 fun f fd=>FnOk P w K mg base CX0 n f fd ps sp∧yet K fd ps []∧PySem.W.keepIn K (.ref f)=true∧mg x=some (.ref f)
theorem zad {n k:Nat} {x:Str} {ps:List Str} {sp:Sp} {e:Expr} {es:List Expr} {t:TA} {p pos:Pos} (h:Has X.prog X.w X.K X.mg X.base n x ps sp) (hr:Room k X.A) (hle:n≤k) (hg:Gl X x) (ha:PA X (e::es) t)
    (hdb:(x==("__debug__":Str))=false:=by decide) (he:starEach (e::es) X.env=(false,eval e X.env)::starEach es X.env:=by rfl) (hpl:(backTo pos (starEach es X.env)).any (·.1)=false:=by rfl) :
    PE X (.Call (.Name x p) (e::es) [] pos) (zgD sp [] E0 t):=by
  obtain ⟨f,fd,F,B,kp,m⟩:=h
  exact zgq F (hr.mono hle) hg m kp B .nil zhc ha hdb he hpl
theorem zaI (Pv:St→Hp→Prop) (μ:St→Hp→Nat) (h0:Pv σ H)
    (hs:∀σ H,Pv σ H→c σ H fun b H1=>if b=true then ∃N:St→Hp→Prop,(∀σ' H',N σ' H'→∃m',m' < μ σ H∧m'=μ σ' H'∧Pv σ' H')∧tb { D with nx:=N,ct:=N,bk:=D.nx } σ H1 else D.nx σ H1):yf1 c tb D σ H:=by
  refine ⟨fun m σ H=>m=μ σ H∧Pv σ H,⟨_,rfl,h0⟩,?_⟩
  rintro m σ H ⟨rfl,p⟩
  exact hs σ H p
end
end L2
end
section
namespace L2
open PySem PySem.Spec PyProof.Rows
section
variable {X:Cx}
theorem za3:bootBuiltins "list"=some (.type "list"):=by decide +kernel
theorem zaj:bootBuiltins "tuple"=some (.type "tuple"):=by decide +kernel
theorem zbf:bootBuiltins "int"=some (.type "int"):=by decide +kernel
theorem ybl:bootBuiltins "bool"=some (.type "bool"):=by decide +kernel
theorem zcl:bootBuiltins "abs"=some (.builtin "abs"):=by decide +kernel
theorem zdO:bootBuiltins "min"=some (.builtin "min"):=by decide +kernel
theorem ycA:bootBuiltins "max"=some (.builtin "max"):=by decide +kernel
theorem ycf (i:Int) (t:Tok):RelV (.int i) (.int i t):=⟨t,rfl⟩
theorem ygw {es:List Expr} {k:Nat} {t:TGs} {n:Nat} {pos:Pos} {K:PySem.W.Frag} (hK:X.K=K) (hc:X.calm=true) (h:PGs X es t)
    (hn:(assignEach es X.env).length=n:=by rfl) (hst:(assignEach es X.env).findIdx? (·.1)=none:=by rfl):PG X (.Tuple es k pos) (gTup K n t):=hK ▸ ydn hc h hn hst
end
end L2
end
section
namespace L2
open PySem PySem.Spec PyProof.Rows
theorem zeL {E:Value→Shared→Prop} {k:Nat} {sl:Array (Option Value)} {Q:Value→Shared→Prop}
    (hx:s.heap.get? a=some { cls:=.type "list",dict:=none,data:=.seq xs k,slots:=sl }) (hA:A.handled=none)
    (h:∀h' tk e,Heap.NewExcOf s.heap h' e "AttributeError"→E (.ref e) { s with heap:=h',toks:=tk }) :
    wpAny (model prog w) A (getAttrBy (.ref a) (.str "keys" u) false) Q E s:=by
  have hmiss:typeLookup (.type "list") "keys"=pure none:=by rw [typeLookup_type,builtinLookup_eq_fast];kernel_rfl
  obtain ⟨hp,g,d,tk,os⟩:=s
  have hT:∀tk',(⟨hp,g,d,tk',os⟩:Shared).TypeIs (.ref a) "list":=fun _=>⟨_,hx,rfl⟩
  have f1:=sub_AttributeError
  have f3:=F.slot_list_getattribute.lookup
  have f4:=F.slot_list_getattribute.bind (.ref a)
  have f5:=am_list_getattr_none
  unfold getAttrBy
  repeat (any_goals (first|assumption|exact hT _|((with_reducible show wpAny _ _ (call (Value.builtin "list.__getattribute__") _ _) _ _ _);refine call_meets F.slot_list_getattribute (hT _) am_entry_list_getattribute (F.args_list_getattribute_2 _ _) (meets_getattribute_miss_list a xs k sl "keys" _ hmiss (by decide +kernel)) ⟨hx,hA,fun h' tk' e hx'=>?_⟩)|wp_step))
  obtain ⟨t',u',he⟩:=hx'.there
  show wpAny _ _ (getattributeRaised _ _ _ _ _ _ _) _ _ _
  unfold getattributeRaised
  repeat (any_goals (first|assumption|wp_step))
  exact h _ _ _ hx'.of
theorem ye9 {E:Value→Shared→Prop} {k:Nat} {sl:Array (Option Value)} {Q:Option Value→Shared→Prop}
    (hx:s.heap.get? a=some { cls:=.type "list",dict:=none,data:=.seq xs k,slots:=sl }) (hA:A.handled=none)
    (h:∀h' tk,(∀b o,s.heap.get? b=some o→h'.get? b=some o)→Q none { s with heap:=h',toks:=tk }) :
    wpAny (model prog w) A (getAttr? (.ref a) "keys") Q E s:=by
  have f1:=sub_AttributeError
  unfold getAttr? getAttrBy?
  refine wpAny_bind (wpAny_mkText ?_)
  refine wpAny_bind ?_
  refine wpAny_attempt ?_
  refine zeL (by exact hx) hA fun h' tk e ne=>?_
  obtain ⟨oe,_,he,hc,_⟩:=ne.there
  show wpAny _ _ (isInstance (.ref e) (.type "AttributeError") >>= _) _ _ _
  refine wpAny_bind (wpAny_isInstance ⟨_,he,hc⟩ f1 ?_)
  exact wpAny_pure (h _ _ ne.keeps)
theorem ybu:entryFor table "dict.update.loop"=some Builtin.«dict.update.loop»:=entryFor_of_fast (by kernel_rfl)
theorem zaH:plainId "dict.update.loop"=true:=by decide +kernel
section
variable {prog:Program} {w:World} {K:Type} [DecidableEq K] {knd:KeyKind prog w K} {A:Around} {R:Result→Shared→Prop} {I ax d:Addr}
theorem ze1 (hh:A.in1.handled=none) (items:Array Value) (more:List (K×Value)) (hne:ax≠I) (hdI:d≠I) (hda:d≠ax) (hsz:items.size≤sizeLine) (hml:more.length=items.size)
    (tp:Nat→Addr) (hit:∀j,j<items.size→items[j]?=some (.ref (tp j))) (htd:∀j,j<items.size→tp j≠d∧tp j≠I) :
    ∀(k i:Nat) (s:Shared) (t:Tok) (kvs:List (K×Value)),items.size-i=k→i≤items.size→s.heap.IsListIter I ax i∧s.heap.IsList ax items→s.heap.DictOf knd d kvs→kvs.length≤i→
    (∀j kv,more[j]?=some kv→∃key,knd.is kv.1 key=true∧s.heap.IsTuple (tp j) #[key,kv.2])→
    (∀s',s'.heap.DictOf knd d (merged kvs (more.drop i))→(∀b o,b≠I→b≠d→s.heap.get? b=some o→s'.heap.get? b=some o)→(Ex2 fun h' tk=>s'={ s with heap:=h',toks:=tk })→R (.ok (.ret .none)) s')→
    codeAny (model prog w) A (.builtin "dict.update.loop" ⟨[.ref d,.ref I,.int (i:Int) t,.none],[]⟩) R s:=by
  have W:=Walks.list (prog:=prog) (w:=w) hh I ax hne items
  intro k
  induction k with
  | zero =>
    intro i s t kvs hk hi hst hd hkl hpairs hR
    have hin:i=items.size:=by lia
    subst hin
    refine codeAny_builtin ybu ?_
    rw [Around.under_plainId zaH _]
    show wpAny _ A.in1 (pyNext (.ref I) >>= _) _ _ s
    refine wpAny_bind (W.done s _ _ hst fun h' tk hk'=>?_)
    have hm:more.drop items.size=[]:=List.drop_of_length_le (by lia)
    rw [hm] at hR
    have hd':h'.DictOf knd d kvs:=hd.at fun o e=>hk' d o (by simp [hdI]) e
    refine wpAny_pure (hR { s with heap:=h',toks:=tk } hd' (fun b o h1 h2 e=>hk' b o (by simp [h1]) e) ⟨_,_,rfl⟩)
  | succ k ih =>
    intro i s t kvs hk hi hst hd hkl hpairs hR
    have hlt:i<items.size:=by lia
    refine codeAny_builtin ybu ?_
    rw [Around.under_plainId zaH _]
    show wpAny _ A.in1 (pyNext (.ref I) >>= _) _ _ s
    refine wpAny_bind (W.item i s _ _ hlt hst fun v h' tk hP hst' hk'=>?_)
    rw [hit i hlt] at hP
    cases hP
    obtain ⟨kv,hkv⟩:∃kv,more[i]?=some kv:=⟨more[i]'(by lia),List.getElem?_eq_getElem (by lia)⟩
    obtain ⟨key,hkey,htup⟩:=hpairs i kv hkv
    have htup':h'.IsTuple (tp i) #[key,kv.2]:=htup.at fun o e=>hk' _ o (by simp [(htd i hlt).2]) e
    obtain ⟨ot,hot,hoc,nn,hod⟩:=id htup'
    have hd':h'.DictOf knd d kvs:=hd.at fun o e=>hk' d o (by simp [hdI]) e
    refine wpAny_bind (wpAny_holding ?_)
    refine wpAny_bind (wpAny_tryCatch ?_)
    unfold Builtin.Dict.pairItems
    refine wpAny_bind (wpAny_typeOf ⟨_,hot,hoc⟩ ?_)
    rw [if_pos (by decide)]
    refine wpAny_bind (wpAny_seqItems hot hod ?_)
    refine wpAny_pure ?_
    show wpAny _ A.in1 (holding [key,kv.2] (dictSet d key kv.2)) _ _ _
    refine wpAny_holding (wpAny_dictSet_pairs (hsz:=by lia) hkey hd' fun h2 hd2 hs2=>?_)
    have step:more.drop i=kv::more.drop (i+1):=by
      rw [List.drop_eq_getElem_cons (by lia)]
      congr 1
      exact Option.some.inj ((List.getElem?_eq_getElem (by lia)).symm.trans hkv)
    refine wpAny_pure ⟨plainId_quiet zaH _,ih (i+1) _ _ (stored kvs kv.1 kv.2) (by lia) hlt ?_ hd2 ?_ (fun j kv' hj=>?_) fun s' h1 h2' h3=>hR s' ?_ (fun b o n1 n2 e=>h2' b o n1 n2 (hs2.extBut b o n2 (hk' b o (by simp [n1]) e))) ?_⟩
    · exact W.frame _ _ _ hst' fun b hb o e=>hs2.extBut b o (by simp only [List.mem_cons,List.not_mem_nil,or_false] at hb;rcases hb with rfl|rfl;exact Ne.symm hdI;exact Ne.symm hda) e
    · have:=stored_length_le kvs kv.1 kv.2;lia
    · obtain ⟨key',a1,a2⟩:=hpairs j kv' hj
      have hj':j<items.size:=by rw [←hml];exact (List.getElem?_eq_some_iff.mp hj).1
      exact ⟨key',a1,(a2.at fun o e=>hk' _ o (by simp [(htd j hj').2]) e).at fun o e=>hs2.extBut _ o (htd j hj').1 e⟩
    · rw [step];exact h1
    · obtain ⟨h4,tk4,rfl⟩:=h3;exact ⟨_,_,rfl⟩
end
section
variable {X:Cx}
theorem Vals.getR:∀ {xs:List V} {us:List Value},Vals xs us→∀(j:Nat) x u,xs[j]?=some x→us[j]?=some u→RelV x u
  | _,_,.nil,j,x,u,e,_=>by simp at e
  | _::_,_::_,.cons r t,0,x,u,e1,e2=>by simp at e1 e2;subst e1 e2;exact r
  | _::_,_::_,.cons r t,j+1,x,u,e1,e2=>Vals.getR t j x u (by simpa using e1) (by simpa using e2)
noncomputable def zgt:List V→Hp→VK→Prop:=fun xs H Q=>Ex3 fun (a:Addr) (ts:List Addr) (kvs:List (Key×V))=>xs=[.ref a]∧H a=some (.lst (ts.map V.ref))∧ts.length=kvs.length∧kvs.length≤sizeLine∧
  (∀(j:Nat) t kv,ts[j]?=some t→kvs[j]?=some kv→H t=some (.tup [kV kv.1,kv.2]))∧(kvs.map (·.1)).Nodup∧∀D,H D=none→Q (.ref D) (upd H D (.dK kvs))
theorem ycO {P:Program} {w:World} (I:Inv X pins σ H s):∀(ts:List Addr) (kvs:List (Key×V)),ts.length=kvs.length→(∀(j:Nat) t kv,ts[j]?=some t→kvs[j]?=some kv→H t=some (.tup [kV kv.1,kv.2]))→
    ∃vs:List (Key×Value),KV kvs vs∧vs.length=ts.length∧∀(j:Nat) kv t,vs[j]?=some kv→ts[j]?=some t→∃key,(zat P w).is kv.1 key=true∧s.heap.IsTuple t #[key,kv.2]
  | [],[],_,_=>⟨[],.nil,rfl,fun j kv t e=>by simp at e⟩
  | [],_::_,h,_=>by simp at h
  | _::_,[],h,_=>by simp at h
  | t::ts,kv::kvs,h,hp=>by
    obtain ⟨vs,h1,h2,h3⟩:=ycO I ts kvs (by simpa using h) fun j t' kv' e1 e2=>hp (j+1) t' kv' (by simpa using e1) (by simpa using e2)
    obtain ⟨its,r,p,_⟩:=I.tuple (SqT.of (hp 0 t kv rfl rfl))
    cases r with
    | cons ra rr =>
      cases rr with
      | cons rb rz =>
        cases rz
        rename_i ka va
        refine ⟨(kv.1,va)::vs,.cons ⟨rfl,rb⟩ h1,by simp [h2],fun j kv' t' e1 e2=>?_⟩
        cases j with
        | zero =>
          simp at e1 e2
          subst e1 e2
          exact ⟨ka,yfE ra,p⟩
        | succ j=>exact h3 j kv' t' (by simpa using e1) (by simpa using e2)
theorem zcp (hc:X.calm=true):zaY X (.type "dict") zgt:=by
  intro pins s σ H xs us Q I r h
  obtain ⟨a,ts,kvs,rfl,ha,hl,hsz,hp,hn,q⟩:=h
  obtain ⟨u,rfl,rx⟩:=zcH r
  cases rx
  obtain ⟨its,r1,p1,z1⟩:=I.list (SqL.of ha)
  refine callType_codes (Q₁:=fun obj s₁=>obj = .ref s.heap.objs.size∧s₁={ s with heap:=s.heap.push { cls:=.type "dict",data:=.dict #[] } }) F.kt_called_dict (F.kt_typeCall_dict_1 _) F.entry_dict_init (kt_code_dict_new _ ⟨rfl,rfl⟩) ?_
  rintro obj s₁ ⟨rfl,rfl⟩
  have hnew:(s.heap.push { cls:=.type "dict",data:=.dict #[] }).DictOf (zat X.prog X.w) s.heap.objs.size []:=Heap.DictOf.new s.heap
  refine ⟨hnew.typeIs,F.args_dict_init_2 _ _,?_⟩
  unfold Builtin.«dict.__init__»
  refine wpAny_bind ?_
  unfold Builtin.Dict.selfAndRest
  refine wpAny_bind (wpAny_notOrdered_dict hnew.typeIs ?_)
  show wpAny _ _ (pure (s.heap.objs.size,[Value.ref a])) _ _ _
  refine wpAny_pure ?_
  show wpAny _ _ (Builtin.Dict.updateFrom "dict.__init__" s.heap.objs.size (.ref a) [] .none) _ _ _
  unfold Builtin.Dict.updateFrom
  have hne:∀b o,s.heap.get? b=some o→b≠s.heap.objs.size:=fun b o e z=>by have l:s.heap.objs.size≥Nat.succ b:=Heap.lt_size e;have z':@Eq Nat b s.heap.objs.size:=z;lia
  obtain ⟨vs,hKV,hvl,hvs⟩:=ycO (P:=X.prog) (w:=X.w) I ts kvs hl hp
  have hA:X.A.in1.in1.handled=none:=I.ok.hd hc
  obtain ⟨⟨ca,da,dta,sla⟩,na,hoa,hca,hda,hdt⟩:=id p1
  dsimp only at hca hda hdt
  subst hca hda hdt
  have e1:(s.heap.push { cls:=.type "dict",data:=.dict #[] }).get? a=some { cls:=.type "list",dict:=none,data:=.seq its.toArray na,slots:=sla }:=Heap.get?_push_of_some _ hoa
  refine wpAny_bind (wpAny_typeOf ⟨_,e1,rfl⟩ ?_)
  dsimp only
  rw [if_pos (by decide)]
  refine wpAny_bind (ye9 e1 hA fun h1 tk1 hk1=>?_)
  rw [if_pos (show (none:Option Value).isNone=true from rfl)]
  refine wpAny_bind (wpAny_rule ?_)
  have e2:h1.IsList a its.toArray:=⟨_,hk1 _ _ e1,rfl,na,rfl⟩
  refine wpAny_bind (wpAny_pyIter_list e2 ?_)
  have hN:s.heap.objs.size<h1.objs.size:=Heap.lt_size (hk1 _ _ (Heap.get?_push_size _ rfl))
  have hI:∀b o,h1.get? b=some o→b≠h1.objs.size:=fun b o e z=>by have l:h1.objs.size≥Nat.succ b:=Heap.lt_size e;have z':@Eq Nat b h1.objs.size:=z;lia
  have kp:∀b o,s.heap.get? b=some o→(h1.push { cls:=.type "list_iterator",data:=.fields #[.ref a,.int 0 0] }).get? b=some o:=fun b o e=>Heap.get?_push_of_some _ (hk1 _ _ (Heap.get?_push_of_some _ e))
  have hr1:=r1.length
  have hlen:its.toArray.size=ts.length:=by rw [List.size_toArray,←hr1,List.length_map]
  have hti:∀j,j<its.toArray.size→its.toArray[j]?=some (.ref (ts.getD j 0)):=by
    intro j hj
    rw [hlen] at hj
    have hj2:j<its.length:=by rw [←hr1,List.length_map];exact hj
    rw [List.getElem?_toArray,List.getElem?_eq_getElem hj2]
    have g:=Vals.getR r1 j (.ref (ts.getD j 0)) its[j] (by rw [List.getElem?_map,List.getElem?_eq_getElem hj];simp [List.getD,hj]) (List.getElem?_eq_getElem hj2)
    exact congrArg some g
  have htu:∀j,j<its.toArray.size→∃o,s.heap.get? (ts.getD j 0)=some o:=by
    intro j hj
    rw [hlen] at hj
    have hj2:j<vs.length:=by rw [hvl];exact hj
    obtain ⟨key,_,o,ho,_⟩:=hvs j vs[j] (ts.getD j 0) (List.getElem?_eq_getElem hj2) (by simp [List.getD,hj])
    exact ⟨o,ho⟩
  refine wpAny_pure ⟨plainId_quiet zaH _,?_⟩
  refine ze1 (knd:=zat X.prog X.w) (A:=X.A.in1) (I:=h1.objs.size) (ax:=a) (d:=s.heap.objs.size) hA its.toArray vs (hI _ _ (hk1 _ _ e1)) (Nat.ne_of_lt hN) (Ne.symm (hne _ _ hoa)) (by rw [hlen,hl];exact hsz) (by rw [hvl,hlen]) (fun j=>ts.getD j 0) hti
    (fun j hj=>by obtain ⟨o,ho⟩:=htu j hj;exact ⟨hne _ _ ho,hI _ _ (hk1 _ _ (Heap.get?_push_of_some _ ho))⟩) _ 0 _ _ [] rfl (Nat.zero_le _) ⟨⟨_,Heap.get?_push_size _ rfl,rfl,rfl⟩,e2.push _⟩ ?_ (Nat.le_refl _) ?_ ?_
  · exact (hnew.at fun o e=>hk1 _ _ e).push _
  · intro j kv hj
    have hj2:j<ts.length:=by rw [←hvl];exact (List.getElem?_eq_some_iff.mp hj).1
    obtain ⟨key,k1,k2⟩:=hvs j kv (ts.getD j 0) hj (by simp [List.getD,hj2])
    exact ⟨key,k1,k2.at fun o e=>kp _ _ e⟩
  · rintro s' hd hk ⟨h',tk,rfl⟩
    have hkeys:vs.map (·.1)=kvs.map (·.1):=(KV.keys hKV).symm
    rw [List.drop_zero,merged_nil_of_nodup vs (by rw [hkeys];exact hn)] at hd
    refine ⟨rfl,.ref s.heap.objs.size,_,I.laid (a:=s.heap.objs.size) (o:=.dK kvs) (t':=tk) (h':=h') (fun b o e=>hk b o (hI _ _ (hk1 _ _ (Heap.get?_push_of_some _ e))) (hne _ _ e) (kp _ _ e)) (Nat.le_refl _) ⟨hsz,beq_eq_false_iff_ne.mpr (Ne.symm (Nat.ne_of_lt I.big)),vs,hKV,hd⟩,rfl,q _ (I.hok.fresh (Nat.le_refl _))⟩
end
end L2
end
section
namespace L2
open PySem PySem.Spec PyProof.Rows
section
variable {X:Cx}
theorem zeZ:∀ {xs:List Int} {us:List Value},Vals (xs.map V.int) us→∀ {ys:List Int} {vs:List Value},Vals (ys.map V.int) vs→∀j (h1:j<us.toArray.size) (h2:j<vs.toArray.size),SeqAt.EqAt A s us.toArray[j] vs.toArray[j] (xs.getD j 0==ys.getD j 0):=by
  intro xs us r1 ys vs r2 j h1 h2
  have l1:=r1.length
  have l2:=r2.length
  rw [List.length_map] at l1 l2
  rw [List.size_toArray] at h1 h2
  have g1:=Vals.getR r1 j (.int (xs.getD j 0)) us[j] (by rw [List.getElem?_map,List.getElem?_eq_getElem (by lia)];simp [List.getD,show j<xs.length by lia]) (List.getElem?_eq_getElem h1)
  have g2:=Vals.getR r2 j (.int (ys.getD j 0)) vs[j] (by rw [List.getElem?_map,List.getElem?_eq_getElem (by lia)];simp [List.getD,show j<ys.length by lia]) (List.getElem?_eq_getElem h2)
  obtain ⟨t1,e1⟩:=g1
  obtain ⟨t2,e2⟩:=g2
  rw [List.getElem_toArray,List.getElem_toArray,e1,e2]
  exact SeqAt.EqAt.int_int _ t1 _ t2
theorem yft {xs ys:List Int}:((List.range (min xs.length ys.length)).all (fun j=>xs.getD j 0==ys.getD j 0)&&xs.length==ys.length)=decide (xs=ys):=by
  rw [Bool.eq_iff_iff,Bool.and_eq_true,List.all_eq_true,decide_eq_true_iff,beq_iff_eq]
  constructor
  · rintro ⟨h1,h2⟩
    refine List.ext_getElem h2 fun j a b=>?_
    have:=h1 j (List.mem_range.mpr (by lia))
    simpa [List.getD,a,b] using this
  · rintro rfl
    exact ⟨fun j _=>by simp,rfl⟩
theorem zbg:∀n:Nat,n<100→PyData.leavesShort 8 (.int (n:Int))=true∧PyData.weight (.int (n:Int))≤10:=by decide +kernel
end
end L2
end
section
namespace L2
open PySem PySem.Spec PyProof.Rows
section
variable {X:Cx} {pos:Pos}
noncomputable def yhe (i j k:Nat) (ta:TA):TS:=fun D σ H=>ta σ H fun vs H1=>Ex3 fun u v w=>vs=[u,v,w]∧D.nx (((σ.set i (some u)).set j (some v)).set k (some w)) H1
theorem zft {i j k:Nat} {x y z:Str} {a b c:Expr} {ta:TA} {px py pz pt:Pos} {kt k2 pt2} (hc:X.calm=true) (hN:X.N.Nodup) (hi:X.N[i]?=some x) (hj:X.N[j]?=some y) (hk:X.N[k]?=some z) (hij:i≠j∧i≠k∧j≠k)
    (hx:X.env.scope.names.lookup x=some .local) (hy:X.env.scope.names.lookup y=some .local) (hz:X.env.scope.names.lookup z=some .local) (ha:PA X [a,b,c] ta)
    (hw:swappedStores [.Tuple [.Name x px,.Name y py,.Name z pz] kt pt] (.Tuple [a,b,c] k2 pt2) X.env=pure (some [x,y,z]))
    (hs:swapsWithSole [.Tuple [.Name x px,.Name y py,.Name z pz] kt pt] (.Tuple [a,b,c] k2 pt2) pos.line X.env=pure false:=by rfl) :
    PS X (.Assign [.Tuple [.Name x px,.Name y py,.Name z pz] kt pt] (.Tuple [a,b,c] k2 pt2) pos) (yhe i j k ta):=by
  intro pins s σ H D I h
  rw [exec_Assign_arm]
  refine wpAny_bind (wpAny_standAt ?_)
  rw [hs]
  refine wpAny_bind (wpAny_pure ?_)
  rw [if_neg (by decide)]
  refine wpAny_bind (Tuple_ (thn (ha _ pins s σ H _ I h) fun us s1 hq=>?_))
  obtain ⟨vs,H1,I1,r1,q1⟩:=hq
  obtain ⟨v1,v2,v3,e1,q1⟩:=q1
  subst e1
  obtain ⟨u1,u2,u3,rfl,r1',r2',r3'⟩:Ex3 fun u1 u2 u3=>us=[u1,u2,u3]∧RelV v1 u1∧RelV v2 u2∧RelV v3 u3:=by
    cases r1 with
    | cons p q =>
      cases q with
      | cons p' q' =>
        cases q' with
        | cons p'' q'' =>
          cases q''
          exact ⟨_,_,_,rfl,p,p',p''⟩
  refine wpAny_newObj_type ?_ (by show 3≤sizeLine;decide)
  have I2:Inv X pins σ H1 { s1 with heap:=s1.heap.push { cls:=.type "tuple",data:=.seq [u1,u2,u3].toArray } }:=I1.kept (t':=s1.toks) fun b o e=>Heap.get?_push_of_some _ e
  rw [hw]
  refine wpAny_bind (wpAny_pure ?_)
  show wpAny (model X.prog X.w) X.A (do rule "assign.swapped-stores";let items ←unpackItems (.ref s1.heap.objs.size) 3 none;assignInOrder [fun v=>bindName X.env z v,fun v=>bindName X.env y v,fun v=>bindName X.env x v] items.reverse;pure Flow.next) _ _ _
  refine wpAny_bind (wpAny_rule (wpAny_bind (unpackItems_tuple (items:=#[u1,u2,u3]) (I.ok.hd hc) (IsTup.new s1.heap _) fun h' hx'=>?_)))
  have I3:=I2.kept (h':=h') (t':=s1.toks) fun b o e=>hx' b o (Nat.ne_of_lt (Heap.lt_size e)) e
  show wpAny _ _ (assignInOrder [fun v=>bindName X.env z v,fun v=>bindName X.env y v,fun v=>bindName X.env x v] [u3,u2,u1] >>= fun _=>pure Flow.next) _ _ _
  refine wpAny_bind (assignInOrder_cons (wpAny_bindName (zaT I3 hN hk (.inl hz) r3' (fun s2 I4=>?_) (.inr hz))))
  refine assignInOrder_cons (wpAny_bindName (zaT I4 hN hj (.inl hy) r2' (fun s2 I5=>?_) (.inr hy)))
  refine assignInOrder_cons (wpAny_bindName (zaT I5 hN hi (.inl hx) r1' (fun s3 I6=>assignInOrder_nil (wpAny_pure ?_)) (.inr hx)))
  have e:((σ.set k (some v3)).set j (some v2)).set i (some v1)=((σ.set i (some v1)).set j (some v2)).set k (some v3):=by
    rw [List.set_comm (some v3) (some v2) (Ne.symm hij.2.2),List.set_comm (some v3) (some v1) (Ne.symm hij.2.1),List.set_comm (some v2) (some v1) (Ne.symm hij.1)]
  rw [e] at I6
  exact ⟨_,H1,I6,q1⟩
section
variable {K:PySem.W.Frag}
theorem zd2 (h:X.K=K):IxR X (rIxT K):=h ▸ zao
theorem zcS (h:X.K=K):OpR X (compareOp .In) (rIn K false):=h ▸ yfp
end
end
end L2
end
section
namespace L2
open PySem PySem.Spec PyProof.Rows
open MeetsSeq MeetsSeq2 MeetsSeq3
section
variable {X:Cx}
theorem ydU (l b:Addr) (items2:Array Value) (n n2:Nat) (dd dd2:Option Addr) (sl sl2:Array (Option Value)) :
    Meets (Builtin.«tuple.__add__» ⟨[.ref l,.ref b],[]⟩) (fun _ R s=>s.heap.get? l=some { cls:=.type "tuple",dict:=dd,data:=.seq #[] n,slots:=sl }∧s.heap.get? b=some { cls:=.type "tuple",dict:=dd2,data:=.seq items2 n2,slots:=sl2 }∧R (.ok (.ret (.ref b))) s) :=
  .of_wp fun prog w A R s h=>by
    obtain ⟨hp,g,d,tk,os⟩:=s;obtain ⟨hl,hb,h⟩:=h
    have hsub:isSubtype (.type "tuple") (.type "tuple")=pure true:=by rw [isSubtype_type];kernel_rfl
    wp_walk
    exact ⟨_,rfl,h⟩
noncomputable def zfz (K:PySem.W.Frag):R2:=fun x y H Q=>Ex4 fun (a b:Addr) (xs ys:List V)=>x = .ref a∧y = .ref b∧SqT K H a xs∧SqT K H b ys∧xs.length+ys.length≤sizeLine∧
  (xs=[]→Q (.ref b) H)∧(xs≠[]→ys=[]→Q (.ref a) H)∧(xs≠[]→ys≠[]→∀p,H p=none→Q (.ref p) (upd H p (.tup (xs++ys))))
theorem zaA:OpR X (binaryOp .Add) (zfz X.K):=by
  intro pins s σ H x y v u Q I rx ry h
  obtain ⟨a,b,xs,ys,rfl,rfl,ha,hb,hz,q0,q1,q2⟩:=h
  by_cases hx:xs=[]
  · subst hx
    cases rx
    cases ry
    obtain ⟨its,r1,⟨⟨cls,dd,data,sl⟩,ho,hc,n,hd⟩,_⟩:=I.tuple ha
    obtain ⟨its2,r2,⟨⟨cls2,dd2,data2,sl2⟩,ho2,hc2,n2,hd2⟩,_⟩:=I.tuple hb
    simp only at hc hd hc2 hd2
    subst hc hd hc2 hd2
    cases r1
    exact concat_meets ⟨_,ho,rfl⟩ ⟨_,ho2,rfl⟩ noFill_tuple_add seq_tuple_add PySem.F.slot_tuple_add PySem.F.entry_tuple_add (PySem.F.args_tuple_add_2 _ _) (ydU a b its2.toArray n n2 dd dd2 sl sl2) ⟨ho,ho2,⟨.ref b,H,I,rfl,q0 rfl⟩⟩
  · exact zgC pins s σ H _ _ v u Q I rx ry ⟨a,b,xs,ys,rfl,rfl,ha,hb,hx,hz,q1 hx,q2 hx⟩
end
end L2
end
section
namespace L2
open PySem PySem.Spec PyProof.Rows
end L2
end
section
namespace L2
open PySem PySem.Spec PyProof.Rows
theorem yca:∀ {ns:List Int} {us:List Value},Vals (ns.map V.int) us→IntsAre us ns
  | [],[],_=>.nil
  | [],_::_,r=>by cases r
  | _::_,[],r=>by cases r
  | n::ns,u::us,.cons r t=>by
    obtain ⟨tk,rfl⟩:=r
    exact .cons n tk (yca t)
theorem zbn:∀ {us:List Value} {ns:List Int},IntsAre us ns→Vals (ns.map V.int) us
  | _,_,.nil=>.nil
  | _,_,.cons n t h=>.cons ⟨t,rfl⟩ (zbn h)
end L2
end
section
namespace L2
open PySem PyProof.Rows
section
variable {X:Cx}
theorem zc9 (h:Vals xs us) {i:Nat} (hi:i<us.toArray.size):∃x,xs[i]?=some x∧RelV x us.toArray[i]:=by
  have hl:=h.length
  rw [List.size_toArray] at hi
  have hx:xs[i]?=some (xs[i]'(by lia)):=List.getElem?_eq_getElem (by lia)
  have hu:us[i]?=some (us[i]):=List.getElem?_eq_getElem hi
  exact ⟨_,hx,h.getR i _ _ hx hu⟩
end
end L2
end
section
namespace L2
open PySem PyProof.Rows
def Rise (xs:Array Nat):Prop:=xs.toList.Pairwise (· < ·)
theorem ycb {xs:Array Nat} (h:Rise xs) {i j:Nat} (hij:i<j) (hj:j<xs.size):xs[i]'(by lia)<xs[j]:=by
  have:=List.pairwise_iff_getElem.mp h i j (by simpa using (by lia:i<xs.size)) (by simpa using hj) hij
  simpa using this
theorem yc0 {xs:Array Nat} (h:Rise xs) (j:Nat):∀(fuel lo hi:Nat),hi-lo≤fuel→lo≤hi→hi≤xs.size→
    (∀i (hi':i<xs.size),i<lo→xs[i]<j)→(∀i (hi':i<xs.size),hi≤i→j≤xs[i])→
    SetTable.below.go xs j fuel lo hi≤xs.size∧(∀i (hi':i<xs.size),i<SetTable.below.go xs j fuel lo hi→xs[i]<j)∧(∀i (hi':i<xs.size),SetTable.below.go xs j fuel lo hi≤i→j≤xs[i])
  | 0,lo,hi,hf,hl,hs,h1,h2=>by
    have e:lo=hi:=by lia
    subst e
    exact ⟨hs,h1,h2⟩
  | fuel+1,lo,hi,hf,hl,hs,h1,h2=>by
    unfold SetTable.below.go
    by_cases c:lo<hi
    · rw [if_pos c]
      have hm:(lo+hi)/2<xs.size:=by lia
      have eg:xs.getD ((lo+hi)/2) j=xs[(lo+hi)/2]:=by simp [Array.getD,hm]
      dsimp only
      rw [eg]
      by_cases d:xs[(lo+hi)/2]<j
      · rw [if_pos d]
        refine yc0 h j fuel _ _ (by lia) (by lia) hs (fun i hi' hlt=>?_) h2
        by_cases e:i=(lo+hi)/2
        · subst e;exact d
        · exact Nat.lt_trans (ycb h (by lia) hm) d
      · rw [if_neg d]
        refine yc0 h j fuel _ _ (by lia) (by lia) (by lia) h1 fun i hi' hge=>?_
        by_cases e:i=(lo+hi)/2
        · subst e;lia
        · have:=ycb h (show (lo+hi)/2<i by lia) hi'
          lia
    · rw [if_neg c]
      have e:lo=hi:=by lia
      subst e
      exact ⟨hs,h1,h2⟩
theorem ybX {xs:Array Nat} (h:Rise xs) (j:Nat):SetTable.below xs j≤xs.size∧(∀i (hi':i<xs.size),i<SetTable.below xs j→xs[i]<j)∧(∀i (hi':i<xs.size),SetTable.below xs j≤i→j≤xs[i]) :=
  yc0 h j xs.size 0 xs.size (by lia) (by lia) (Nat.le_refl _) (fun i _ hi=>absurd hi (Nat.not_lt_zero _)) (fun i hi' hge=>absurd hi' (by lia))
theorem ydX {xs:Array Nat} (h:Rise xs) {j:Nat} (hn:xs[SetTable.below xs j]?≠some j):Rise (SetTable.insertAt xs (SetTable.below xs j) j):=by
  obtain ⟨h1,h2,h3⟩:=ybX h j
  generalize SetTable.below xs j=r at *
  unfold Rise
  rw [SetTable.toList_insertAt]
  have hd:∀y∈xs.toList.drop r,j<y:=by
    intro y hy
    obtain ⟨i,hi,e⟩:=List.getElem_of_mem hy
    rw [List.getElem_drop] at e
    have hi2:r+i<xs.size:=by simp at hi;lia
    have e2:y=xs[r+i]:=by rw [←e];simp
    have h4:=h3 (r+i) hi2 (by lia)
    have h5:r<xs.size:=by lia
    have h6:=h3 r h5 (Nat.le_refl _)
    have h7:xs[r]≠j:=fun q=>hn (by rw [Array.getElem?_eq_getElem h5,q])
    by_cases c:i=0
    · subst c;rw [e2];simp only [Nat.add_zero];lia
    · have:=ycb h (show r<r+i by lia) hi2
      rw [e2];lia
  have ht:∀y∈xs.toList.take r,y<j:=by
    intro y hy
    obtain ⟨i,hi,e⟩:=List.getElem_of_mem hy
    rw [List.getElem_take] at e
    have hi2:i<xs.size:=by simp at hi;lia
    have e2:y=xs[i]:=by rw [←e];simp
    rw [e2]
    exact h2 i hi2 (by simp at hi;lia)
  refine List.pairwise_append.mpr ⟨List.Pairwise.sublist (List.take_sublist _ _) h,List.pairwise_cons.mpr ⟨hd,List.Pairwise.sublist (List.drop_sublist _ _) h⟩,fun a ha b hb=>?_⟩
  rcases List.mem_cons.mp hb with rfl|hb
  · exact ht a ha
  · exact Nat.lt_trans (ht a ha) (hd b hb)
theorem zcY {t:SetTable} {f:Nat→Int} {h:Int}:∀(fuel:Nat) (p:SetTable.Probe) {j:Nat} {d:Option Nat},(∀e,p.dummy=some e→t.slot e = .dummy)→SetTable.probe.go t f h fuel p=some (.empty j d)→t.slot j = .empty∧∀e,d=some e→t.slot e = .dummy
  | 0,p,j,d,_,e=>by cases e
  | fuel+1,p,j,d,hp,e=>by
    unfold SetTable.probe.go at e
    have adv:∀q:SetTable.Probe,(t.advance q).dummy=q.dummy:=fun q=>by unfold SetTable.advance;split <;> rfl
    cases hs:t.slot p.j with
    | empty=>rw [hs] at e;cases e;exact ⟨hs,hp⟩
    | dummy =>
      rw [hs] at e
      refine zcY fuel _ (fun x hx=>?_) e
      rw [adv] at hx;cases hx;exact hs
    | live i =>
      rw [hs] at e
      dsimp only at e
      split at e
      · cases e
      · refine zcY fuel _ (fun x hx=>?_) e
        rw [adv] at hx;exact hp x hx
theorem yeK {t:SetTable} {h:Int} {j:Nat} {b:Bool} (e:t.freeSlot h=some (j,b)):∀i,t.slot j≠.live i:=by
  unfold SetTable.freeSlot at e
  split at e
  · rename_i j' d hm
    obtain ⟨h1,h2⟩:=zcY (t:=t) _ _ (fun e he=>by cases he) hm
    cases e
    intro i
    cases d with
    | none=>show t.slot j'≠_;rw [h1];exact fun q=>nomatch q
    | some d=>show t.slot d≠_;rw [h2 d rfl];exact fun q=>nomatch q
  · cases e
theorem yeV {t:SetTable} {j:Nat} (h:∀i,t.slot j≠.live i):t.place[SetTable.below t.place j]?≠some j:=fun e=>by
  refine h (SetTable.below t.place j) ?_
  unfold SetTable.slot
  dsimp only
  rw [if_pos (by rw [e];exact beq_self_eq_true _)]
structure TabG (led:Bool) (t:SetTable):Prop where
  led:t.led=led
  rise:t.plain=true→Rise t.place
theorem TabG.standIn {led:Bool} (h:TabG led t) (n:Nat):TabG led (t.standIn n):=⟨h.led,fun e=>by cases e⟩
theorem yfV {led:Bool} (h:TabG led t) (es:Array (Int×Value)) (k:Int) (x:Value):TabG led (layNew t es k x).2.1:=by
  unfold layNew
  split
  · rename_i slot wasDummy he
    dsimp only
    have hp:TabG led (t.put slot).1:=by
      refine ⟨h.led,fun e=>?_⟩
      exact ydX (h.rise e) (yeV (yeK he))
    unfold SetTable.orStandIn
    split
    · exact hp
    · exact hp.standIn _
  · exact h.standIn _
theorem yen {led:Bool} (h:TabG led t) (es:Array (Int×Value)) (n:Nat):TabG led (relayAll t es n).2.1:=by
  unfold relayAll
  split
  · rename_i t' order he
    have ht:TabG led t':=by
      unfold SetTable.relaid SetTable.laid at he
      simp only [Option.bind_eq_bind,Option.bind_eq_some_iff] at he
      obtain ⟨owner,_,he⟩:=he
      cases he
      refine ⟨h.led,fun _=>?_⟩
      unfold Rise
      dsimp only
      rw [List.pairwise_map,List.pairwise_filterMap]
      refine List.Pairwise.imp ?_ List.pairwise_lt_range
      intro a b hab x hx y hy
      cases h1:owner.getD a none with
      | none=>rw [h1] at hx;cases hx
      | some u =>
        cases h2:owner.getD b none with
        | none=>rw [h2] at hy;cases hy
        | some v=>rw [h1] at hx;rw [h2] at hy;cases hx;cases hy;exact hab
    dsimp only
    split
    · exact ht
    · exact h.standIn _
  · exact h.standIn _
section
variable {prog:Program} {w:World} {A:Around} {E:Value→Shared→Prop} {s:Shared}
abbrev za0 (w:World):Bool:=w.params.followText "set-order"
noncomputable def SetG (w:World) (prog:Program) (h:Heap) (a:Addr) (S:Int→Bool) (n:Nat):Prop :=
  Ex4 fun o es ep t=>h.get? a=some o∧o.ExactSet∧o.data = .set es ep t∧ElemsOf (intKind prog w) es.toList∧(∀k,S k=true↔∃e∈es.toList,(intKind prog w).is k e.2=true)
    ∧es.size<scanBound∧t.fits es.size=true∧es.size=n∧TabG (!za0 w) t
theorem zdx {h:Heap} {a:Addr} {o:Obj} {es:Array (Int×Value)} {ep:Nat} {t:SetTable} (ho:h.get? a=some o) (hd:o.data = .set es ep t) (es':Array (Int×Value)) (t':SetTable) :
    (h.update a (Obj.putSet es' t')).get? a=some { o with data:=.set es' (ep+1) t' }:=by
  have:=Heap.get?_update_self (Obj.putSet es' t') ho (by rw [putSet_of es' t' hd];rfl)
  rw [putSet_of es' t' hd] at this;exact this
theorem yhq {S:Int→Bool} {n:Nat} {k:Int} {Q:Bool→Shared→Prop} (hS:SetG w prog s.heap a S n) (hroom:n+1<scanBound)
    (h:∀h' b,Heap.SameBut a s.heap h'→SetG w prog h' a (fun k'=>S k'||decide (k'=k)) (if S k then n else n+1)→Q b { s with heap:=h' }) :
    wpAny (model prog w) A (setAddHashed a (.int k tk) ((intKind prog w).hash k)) Q E s:=by
  obtain ⟨o,es,ep,t,ho,hex,hd,hel,hmem,hb,hf,hn,hG⟩:=hS
  have hkey:(intKind prog w).is k (.int k tk)=true:=intKind_is _ _ _ _
  have hsc:(Value.int k tk).scannable=true:=rfl
  unfold setAddHashed setAddHashedIn
  refine wpAny_holding (wpAny_bind (wpAny_setState_of ho hd hf ?_))
  dsimp only
  rw [byScan_of hsc hb hel,if_pos rfl]
  unfold setAddByScan
  refine wpAny_bind (wpAny_bind (wpAny_rule (wpAny_bind (wpAny_setScan_of hkey ho hd hf hel ?_))))
  cases hr:List.findIdx? (fun e=>(intKind prog w).is k e.2) es.toList with
  | some j =>
    obtain ⟨hj,hpj,_⟩:=List.findIdx?_eq_some_iff_getElem.mp hr
    have hSk:S k=true:=(hmem k).mpr ⟨es.toList[j],List.getElem_mem hj,hpj⟩
    refine wpAny_pure (wpAny_pure ?_)
    have h1:=h s.heap false (Heap.SameBut.refl a s.heap) ⟨o,es,ep,t,ho,hex,hd,hel,fun k'=>by
      rw [Bool.or_eq_true,decide_eq_true_eq,←hmem k']
      exact ⟨fun hk=>hk.elim id (fun e=>e ▸ hSk),.inl⟩,hb,hf,by rw [hSk];exact hn,hG⟩
    exact h1
  | none =>
    have hSk:S k=false:=by
      cases hk:S k with
      | false=>rfl
      | true =>
        obtain ⟨e,he,hp⟩:=(hmem k).mp hk
        have:=List.findIdx?_eq_none_iff.mp hr e he
        rw [hp] at this;cases this
    have hperm:=layNew_perm t es ((intKind prog w).hash k) (.int k tk)
    have hfits:=layNew_fits t es ((intKind prog w).hash k) (.int k tk)
    have hG1:=yfV hG es ((intKind prog w).hash k) (.int k tk)
    dsimp only
    generalize layNew t es ((intKind prog w).hash k) (.int k tk)=L at hperm hfits hG1 ⊢
    obtain ⟨es1,t1,wasDummy,gave⟩:=L
    dsimp only at hperm hfits hG1 ⊢
    rw [Array.toList_push] at hperm
    have hel1:ElemsOf (intKind prog w) es1.toList:=(hel.push hkey hsc).perm hperm
    have hmem1:∀k',(S k'||decide (k'=k))=true↔∃e∈es1.toList,(intKind prog w).is k' e.2=true:=mem_push_iff hkey hmem hperm
    have hsz1:es1.size=n+1:=by rw [←Array.length_toList,hperm.length_eq,List.length_append,Array.length_toList,hn];rfl
    have hz:es1.size≤sizeLine:=fits_of_scanBound (by lia)
    have en:(if S k=true then n else n+1)=n+1:=by rw [hSk];rfl
    rw [en] at h
    have fin:∀t2:SetTable,TabG (!za0 w) t2→t2.fits es1.size=true→wpAny (model prog w) A (storeSet a es1 t2 >>= fun _=>if (!wasDummy&&t2.tooFull)=true then
          (match (relayAll t2 es1 (SetTable.grown es1.size)).2.2 with|true=>rule "set.scan.the-table-gave-way"|false=>pure ()) >>= fun _=>storeSet a (relayAll t2 es1 (SetTable.grown es1.size)).1 (relayAll t2 es1 (SetTable.grown es1.size)).2.1 >>= fun _=>pure (some true)
        else pure (some true)) (fun r s'=>∃h',s'={ s with heap:=h' }∧r=some true∧Heap.SameBut a s.heap h'∧SetG w prog h' a (fun k'=>S k'||decide (k'=k)) (n+1)) E s:=by
      intro t2 g2 f2
      refine wpAny_bind (wpAny_storeSet_of ho hd ?_ hz)
      have o1:=zdx ho hd es1 t2
      have b1:=Heap.SameBut.update s.heap a (Obj.putSet es1 t2)
      split
      · have hp:=relayAll_perm t2 es1 (SetTable.grown es1.size)
        have hfr:=relayAll_fits t2 es1 (SetTable.grown es1.size)
        have g3:=yen g2 es1 (SetTable.grown es1.size)
        generalize relayAll t2 es1 (SetTable.grown es1.size)=Rl at hp hfr g3 ⊢
        obtain ⟨es2,t3,gave2⟩:=Rl
        dsimp only at hp hfr g3 ⊢
        have hsz:es2.size=es1.size:=by rw [←Array.length_toList,hp.length_eq,Array.length_toList]
        have rest:wpAny (model prog w) A (storeSet a es2 t3 >>= fun _=>pure (some true)) (fun r s'=>∃h',s'={ s with heap:=h' }∧r=some true∧Heap.SameBut a s.heap h'∧SetG w prog h' a (fun k'=>S k'||decide (k'=k)) (n+1)) E { s with heap:=s.heap.update a (Obj.putSet es1 t2) }:=by
          refine wpAny_bind (wpAny_storeSet_of o1 rfl ?_ (by lia))
          exact wpAny_pure ⟨_,rfl,rfl,b1.trans (Heap.SameBut.update _ a _),_,es2,_,t3,zdx o1 rfl es2 t3,hex,rfl,hel1.perm hp,fun k'=>(hmem1 k').trans ⟨fun ⟨e,he,q⟩=>⟨e,hp.mem_iff.mpr he,q⟩,fun ⟨e,he,q⟩=>⟨e,hp.mem_iff.mp he,q⟩⟩,by lia,hfr,by lia,g3⟩
        cases gave2
        · exact wpAny_bind (wpAny_pure rest)
        · exact wpAny_bind (wpAny_rule rest)
      · exact wpAny_pure ⟨_,rfl,rfl,b1,_,es1,_,t2,o1,hex,rfl,hel1,hmem1,by lia,f2,hsz1,g2⟩
    have hgw:∀(b:Bool) {s₁:Shared} {Q':Unit→Shared→Prop},Q' () s₁→wpAny (model prog w) A (match b with|true=>rule "set.scan.the-table-gave-way"|false=>pure ()) Q' E s₁ :=
      fun b s₁ Q' hq=>by cases b <;> first|exact wpAny_pure hq|exact wpAny_rule hq
    refine wpAny_bind (hgw gave ?_)
    split
    · refine wpAny_bind ?_
      rw [hashByValue_scannable 8 hsc]
      refine wpAny_pure ?_
      refine thn (fin t1 hG1 hfits) fun r s' hq=>?_
      obtain ⟨h',e1,e2,b,g⟩:=hq
      subst e1;subst e2
      exact wpAny_pure (h h' true b g)
    · refine wpAny_bind (wpAny_pure ?_)
      refine thn (fin t1 hG1 hfits) fun r s' hq=>?_
      obtain ⟨h',e1,e2,b,g⟩:=hq
      subst e1;subst e2
      exact wpAny_pure (h h' true b g)
theorem SetG.at {S:Int→Bool} {n:Nat} (x:SetG w prog h a S n) (e:∀o,h.get? a=some o→h'.get? a=some o):SetG w prog h' a S n:=by
  obtain ⟨o,es,ep,t,ho,r⟩:=x
  exact ⟨o,es,ep,t,e o ho,r⟩
theorem SetG.congr {S S':Int→Bool} {n n':Nat} (x:SetG w prog h a S n) (e:∀k,S k=S' k) (en:n=n'):SetG w prog h a S' n':=by
  have:S=S':=funext e
  subst this;subst en;exact x
section
variable {R:Result→Shared→Prop} {I:Addr} {fp wr:List Addr} {G:Array GenState→Array GenState→Prop} {n:Nat} {P:Nat→Value→Prop} {St:Nat→Shared→Prop}
theorem zga (W:WalksS prog w A.in1 I fp wr G n P St) (S:Addr) (hSf:S∉fp) (val:Nat→Int) (hval:∀i v,P i v→∃t,v = .int (val i) t) (hb:n+1<scanBound):∀(k i:Nat) (s:Shared),n-i=k→i≤n→St i s→
      SetG w prog s.heap S (fun k'=>(firstMet val i).any (·==k')) (firstMet val i).length→
      (∀s',Moved (S::wr) G s s'→SetG w prog s'.heap S (fun k'=>(firstMet val n).any (·==k')) (firstMet val n).length→R (.ok (.ret .none)) s')→
      codeAny (model prog w) A (.builtin "set.update.loop" ⟨[.ref S,.ref I],[]⟩) R s:=by
  have hSw:S∉wr:=fun h=>hSf (W.sub _ h)
  have hsub:∀b∈wr,b∈S::wr:=fun b hb=>List.mem_cons_of_mem _ hb
  intro k
  induction k with
  | zero =>
    intro i s hk hi hst hS hR
    obtain rfl:i=n:=by lia
    refine codeAny_builtin F.entry_set_update_loop ?_
    rw [Around.under_plainId F.plain_set_update_loop _]
    show wpAny _ A.in1 (pyNext (.ref I) >>= _) _ _ s
    refine wpAny_bind (W.done s _ _ hst fun s' hm=>?_)
    exact wpAny_pure (hR s' (hm.mono hsub) (hS.at fun o e=>hm.heap S o hSw e))
  | succ k ih =>
    intro i s hk hi hst hS hR
    have hlt:i<n:=by lia
    refine codeAny_builtin F.entry_set_update_loop ?_
    rw [Around.under_plainId F.plain_set_update_loop _]
    show wpAny _ A.in1 (pyNext (.ref I) >>= _) _ _ s
    refine wpAny_bind (W.item i s _ _ hlt hst fun v s' hP hst' hm=>?_)
    obtain ⟨t,rfl⟩:=hval i v hP
    have hS':=hS.at (h':=s'.heap) fun o e=>hm.heap S o hSw e
    show wpAny _ A.in1 (holding [Value.int (val i) t] (setAdd S (.int (val i) t)) >>= _) _ _ s'
    refine wpAny_bind (wpAny_holding ?_)
    unfold setAdd
    refine wpAny_holding (wpAny_bind ((intKind prog w).pyHash (k:=val i) (intKind_is _ _ _ _) ?_))
    have hroom:(firstMet val i).length+1<scanBound:=by have:=firstMet_length_le val i;lia
    refine yhq (s:={ s' with toks:=s'.toks+1 }) hS' hroom fun h' b hsb hS2=>?_
    have hSi:SetG w prog h' S (fun k'=>(firstMet val (i+1)).any (·==k')) (firstMet val (i+1)).length:=hS2.congr (fun k'=>by rw [firstMet_succ,step_any]) (by rw [firstMet_succ,step_length])
    refine wpAny_pure ⟨plainId_quiet F.plain_set_update_loop _,ih (i+1) _ (by lia) hlt (W.frame _ s' _ _ hst' (Nat.le_succ _) fun b hb o e=>?_) hSi fun s'' hm'' hS''=>?_⟩
    · rw [hsb.2 b (fun h:b=S=>hSf (by rw [←h];exact hb))];exact e
    · refine hR s'' (Moved.trans W.gtrans ((hm.mono hsub).then_heap (Nat.le_succ _) fun b o hb e=>?_) hm'') hS''
      rw [hsb.2 b (fun h:b=S=>hb (by rw [h];exact List.mem_cons_self))];exact e
end
abbrev zav (w:World):Obj:={ cls:=.type "set",dict:=none,data:=.set #[] 0 (.fresh 0 0 (!za0 w)) }
theorem zd6 (e:h.get? a=some (zav w)):SetG w prog h a (fun _=>false) 0 :=
  ⟨_,#[],0,_,e,⟨rfl,rfl,rfl⟩,rfl,fun e he=>by simp at he,fun k=>by simp,by decide,by rfl,rfl,⟨rfl,fun _=>List.Pairwise.nil⟩⟩
theorem zdI (a:Value) {Q₁:Value→Shared→Prop} (h:Q₁ (.ref s.heap.objs.size) { s with heap:=s.heap.push (zav w) }) :
    codeAny (model prog w) A (.call (.builtin "set.__new__") ⟨[.type "set",a],[]⟩) (wants Q₁ E) s:=by
  refine codeAny_of_tree ?_
  show wpAny _ A.in1 (do checkBuiltinCall "set.__new__" ⟨[.type "set",a],[]⟩;again (.builtin "set.__new__" ⟨[.type "set",a],[]⟩)) _ _ s
  refine wpAny_bind (wpAny_of_eq (F.newCall_set_1 a) (wpAny_pure ⟨plainId_quiet F.plain_set_new _,codeAny_builtin F.entry_set_new ?_⟩))
  rw [Around.under_plainId F.plain_set_new _]
  unfold Builtin.«set.__new__» Builtin.Frozenset.newClass
  have hsub:=sub_set_self
  obtain ⟨hp,g,d,tk,os⟩:=s
  dsimp only
  wp_walk
  refine wpAny_askSetting (wpAny_pure ?_)
  dsimp only
  simp only [newObj]
  refine wpAny_bind (wpAny_alloc (wpAny_pure ?_))
  exact wpAny_pure h
set_option maxHeartbeats 8000000 in
theorem zeB {ns:List Int} {Q:Value→Shared→Prop} (hh:A.handled=none) (hl:s.heap.IsList l items) (hi:IntsAre items.toList ns) (hb:items.size+1<scanBound)
    (h:∀(h':Heap) (tk:Nat),SetG w prog h' s.heap.objs.size (fun k'=>(firstMet (fun i=>ns.getD i 0) items.size).any (·==k')) (firstMet (fun i=>ns.getD i 0) items.size).length→
      (∀b o,s.heap.get? b=some o→h'.get? b=some o)→Q (.ref s.heap.objs.size) { s with heap:=h',toks:=tk }) :
    wpAny (model prog w) A (call (.type "set") [.ref l]) Q E s:=by
  obtain ⟨c,tl,hmro⟩:=F.called_set.mro
  have hmade:=F.called_set.made
  have hsub:=F.called_set.sub
  refine wpAny_call (codeAny_of_tree ?_)
  show wpAny _ _ (callAny (.type "set") _) _ _ _
  refine wpAny_pure ⟨Code.quiet_builtin _ (by decide +kernel),codeAny_builtin F.entry_type_call ?_⟩
  rw [Around.under_plain (weight_type_call_type "set" [.ref l] []) rfl]
  have h1:=F.called_set.notType
  have h2:=F.called_set.canCreate
  have hct:=F.typeCall_set_1 (.ref l)
  repeat (any_goals (first|assumption|wp_step))
  refine codeAny_mono (zdI (.ref l) (E:=E) (Q₁:=fun obj s₁=>obj = .ref s.heap.objs.size∧s₁={ s with heap:=s.heap.push (zav w) }) ⟨rfl,rfl⟩) fun r s₁ hr=>?_
  cases r with
  | error e=>exact hr
  | ok fl =>
    cases fl with
    | ret obj =>
      obtain ⟨rfl,rfl⟩:=hr
      have hS:(s.heap.push (zav w)).get? s.heap.objs.size=some (zav w):=Heap.get?_push_size _ rfl
      have hT:Shared.TypeIs { s with heap:=s.heap.push (zav w) } (.ref s.heap.objs.size) "set":=⟨_,hS,rfl⟩
      have hli:=F.called_set.init.lookup
      have hbi:=F.called_set.init.bind (.ref s.heap.objs.size)
      repeat (any_goals (first|assumption|wp_step))
      refine codeAny_mono (codeAny_call_builtin (R:=wants (fun r s₂=>r = .none∧Ex2 fun h' tk=>s₂={ s with heap:=h',toks:=tk }∧
          SetG w prog h' s.heap.objs.size (fun k'=>(firstMet (fun i=>ns.getD i 0) items.size).any (·==k')) (firstMet (fun i=>ns.getD i 0) items.size).length∧
          (∀b o,s.heap.get? b=some o→h'.get? b=some o)) E) F.called_set.init.plain F.entry_set_init (check_set_init_1 hT ?_)) fun r₂ s₂ hr₂=>?_
      · obtain ⟨ol,hol,hcl,nl,hdl⟩:=hl
        obtain ⟨ocls,odict,odata,oslots⟩:=ol
        simp only at hcl hdl
        subst hcl;subst hdl
        have hol':(s.heap.push (zav w)).get? l=some { cls:=.type "list",dict:=odict,data:=.seq items nl,slots:=oslots }:=Heap.get?_push_of_some _ hol
        have hsls:=F.sub_list_set
        have hslf:=F.sub_list_frozenset
        have hne:(Value.type "list"==Value.type "dict")=false:=by decide
        have hl1:(s.heap.push (zav w)).IsList l items:=⟨_,hol',rfl,nl,rfl⟩
        unfold Builtin.«set.__init__» noKeywords Builtin.Frozenset.updateFrom
        generalize hPI:pyIter=PI
        wp_walk
        subst hPI
        refine wpAny_pyIter_list hl1 ?_
        refine wpAny_bind (wpAny_runValue ?_)
        have hlS:l<s.heap.objs.size:=Heap.lt_size hol
        have hneI:l≠(s.heap.push (zav w)).objs.size:=by rw [Heap.size_push];exact Nat.ne_of_lt (Nat.lt_succ_of_lt hlS)
        have hSf:s.heap.objs.size∉[(s.heap.push (zav w)).objs.size,l]:=by
          rw [Heap.size_push];simp only [List.mem_cons,List.not_mem_nil,or_false,not_or]
          exact ⟨Nat.ne_of_lt (Nat.lt_succ_self _),Nat.ne_of_gt hlS⟩
        refine zga ((Walks.list (by simp [hh]) _ l hneI items).toS) s.heap.objs.size hSf (fun i=>ns.getD i 0) (fun i v hv=>IntsAre.int_at hi i v (by rw [Array.getElem?_toList];exact hv)) hb (items.size-0) 0 _ (by lia) (Nat.zero_le _)
          ⟨⟨_,Heap.get?_push_size _ rfl,rfl,rfl⟩,(hl1.push _)⟩ ((zd6 (Heap.get?_push_of_some _ hS)).congr (fun _=>rfl) rfl) fun s' hm hS'=>?_
        obtain ⟨h',g',d',tk',os'⟩:=s'
        obtain rfl:g'=s.gens:=hm.gens
        obtain rfl:d'=s.drawn:=hm.drawn
        obtain rfl:os'=s.os:=hm.os
        show wpAny _ _ _ _ _ _
        refine wpAny_pure ?_
        show wpAny _ _ (ret Value.none) _ _ _
        refine wpAny_pure ⟨rfl,h',tk',rfl,hS',fun b o e=>?_⟩
        have hb:=Heap.lt_size e
        refine hm.heap b o ?_ (Heap.get?_push_of_some _ (Heap.get?_push_of_some _ e))
        simp only [List.mem_cons,List.not_mem_nil,or_false,not_or]
        rw [Heap.size_push]
        exact ⟨Nat.ne_of_lt hb,Nat.ne_of_lt (Nat.lt_succ_of_lt hb)⟩
      · cases r₂ with
        | error e=>exact hr₂
        | ok fl₂ =>
          cases fl₂ with
          | ret r =>
            obtain ⟨rfl,h',tk,rfl,hS',hk'⟩:=hr₂
            repeat (any_goals (first|assumption|wp_step))
            exact h _ _ hS' hk'
          | _=>exact hr₂.elim
    | _=>exact hr.elim
end
end L2
end
section
namespace L2
open PySem PyProof.Rows
theorem ya3:Manifest.owners.lookup (String.ofList ['r','o','t','a','r','e','t','i','_','t','e','s'].reverse)=some Manifest.sig_set_iterator:=by kernel_rfl
theorem zal:Slot "set_iterator" "__next__" "set_iterator.__next__" :=
  .of (owner:="set_iterator") (n:="__next__") (by rw [typeLookup_type,builtinLookup_eq_fast];kernel_rfl) (by decide +kernel) (by decide +kernel) (by decide +kernel)
    (by first|exact .inl (by decide +kernel)|exact .inr (by decide +kernel)) (by rw [isSubtype_type];kernel_rfl)
theorem yaT:entryFor table "set_iterator.__next__"=some Builtin.«set_iterator.__next__»:=entryFor_of_tree (by kernel_rfl)
theorem zaO (a:Value):argsOk "set_iterator.__next__" ⟨[a],[]⟩:=by
  unfold argsOk;rw [signature?_of (id:="set_iterator.__next__") (n:=['_','_','t','x','e','n','_','_']) (o:=['r','o','t','a','r','e','t','i','_','t','e','s']) (by kernel_rfl) ya3];kernel_rfl
theorem ycH:entryFor table "set.__iter__"=some Builtin.«frozenset.__iter__» :=
  entryFor_alias (id':="frozenset.__iter__") (by kernel_rfl) (by first|rfl|decide +kernel|(unfold String.splitOn;simp +decide [String.splitOnAux])) (by decide +kernel) (by kernel_rfl)
noncomputable def IsSI (h:Heap) (I S:Addr) (first:Value) (i n ep:Nat):Prop:=∃o,h.get? I=some o∧o.cls = .type "set_iterator"∧o.data = .fields #[first,rawInt i,.ref S,rawInt n,rawInt ep]
theorem IsSI.at {i n ep:Nat} (x:IsSI h I S first i n ep) (e:∀o,h.get? I=some o→h'.get? I=some o):IsSI h' I S first i n ep:=let ⟨o,ho,r⟩:=x;⟨o,e _ ho,r⟩
noncomputable def yb8 (h:Heap) (S:Addr) (es:Array (Int×Value)) (ep:Nat) (t:SetTable):Prop:=∃o,h.get? S=some o∧o.data = .set es ep t∧t.fits es.size=true
theorem yb8.at {ep:Nat} (x:yb8 h S es ep t) (e:∀o,h.get? S=some o→h'.get? S=some o):yb8 h' S es ep t:=let ⟨o,ho,r⟩:=x;⟨o,e _ ho,r⟩
section
variable {prog:Program} {w:World} {A:Around} {E:Value→Shared→Prop} {s:Shared}
theorem IsSI.typeIs {i n ep:Nat} (x:IsSI s.heap I S first i n ep):s.TypeIs (.ref I) "set_iterator":=let ⟨o,ho,hc,_⟩:=x;⟨o,ho,hc⟩
noncomputable def zfR (prog:Program) (w:World) (s:Shared) (S:Addr) (slot i ep:Nat) (r:Option (Value×Nat)):Prop:=∀(A:Around) (E:Value→Shared→Prop) (Q:Option (Value×Nat)→Shared→Prop),Q r s→wpAny (model prog w) A (setNext S slot i ep) Q E s
theorem ze2 {slot i ep nx:Nat} {x:Value} {Q:Option Value→Shared→Prop} (hit:IsSI s.heap I S (rawInt slot) i es.size ep) (hs:yb8 s.heap S es ep t) (hT:zfR prog w s S slot i ep (some (x,nx)))
    (hQ:∀h',IsSI h' I S (rawInt nx) (i+1) es.size ep→Heap.SameBut I s.heap h'→Q (some x) { s with heap:=h' }):wpAny (model prog w) A (pyNext (.ref I)) Q E s:=by
  obtain ⟨o,ho,hc,hd⟩:=id hit
  obtain ⟨os,hos,hds,hf⟩:=id hs
  unfold pyNext
  refine wpAny_bind (wpAny_attempt (wpAny_callSpecial?_slot (name:=Str.ofString "__next__") hit.typeIs zal
    (wpAny_call_entry zal hit.typeIs yaT ?_ (zaO _))))
  unfold Builtin.«set_iterator.__next__»
  refine wpAny_bind (wpAny_of_eq (a:=(Value.ref I,[])) rfl ?_)
  try dsimp only
  refine wpAny_bind (wpAny_fieldsOf ho hd ?_)
  simp only [rawInt]
  refine wpAny_bind (wpAny_setEntries_of hos hds hf ?_)
  refine wpAny_ite_split (fun h=>absurd h (by simp)) (fun _=>?_)
  refine wpAny_bind (hT _ _ _ ?_)
  dsimp only
  refine wpAny_bind (wpAny_setField ho hd (by simp) ?_)
  have h1:=Heap.get?_update_self (Obj.mapFields (fun vs=>vs.setIfInBounds 0 (Value.int nx 0))) ho (Obj.isFreed_of_fields (Obj.data_mapFields hd _))
  refine wpAny_bind (wpAny_setField h1 (Obj.data_mapFields hd _) (by simp) ?_)
  refine wpAny_pure ⟨x,rfl,wpAny_pure (hQ _ ?_ ((Heap.SameBut.update ..).trans (Heap.SameBut.update ..)))⟩
  exact ⟨_,Heap.get?_update_self _ h1 (Obj.isFreed_of_fields (Obj.data_mapFields (Obj.data_mapFields hd _) _)),(Obj.cls_mapFields ..).trans ((Obj.cls_mapFields ..).trans hc),by rw [Obj.data_mapFields (Obj.data_mapFields hd _)];simp [rawInt]⟩
theorem zfq {I:Addr} {Q:Option Value→Shared→Prop} (hh:A.handled=none) (hQ:∀h' tk,(∀b o,s1.heap.get? b=some o→h'.get? b=some o)→Q none { s1 with heap:=h',toks:=tk }) :
    wpAny (model prog w) A.in1 (newExc (.type "StopIteration") [] >>= fun e=>raiseNew e) (fun fin s'=>∃v,fin=Fin.done (Flow.ret v)∧wpAny (model prog w) A (pure (some v)) Q E s')
      (fun e s'=>wpAny (model prog w) A (do if (←isInstance e (.type "StopIteration"))=true then pure none else throw e) Q E s') s1:=by
  refine wpAny_bind ?_
  simp only [newExc,newTuple]
  refine wpAny_bind (wpAny_newObj_type ?_ (by size_fits))
  refine wpAny_bind (m:=firstArgMember _ _) (wpAny_of_eq (a:=Value.none) (by first|rfl|(simp only [firstArgMember];rfl)) ?_)
  refine wpAny_newObj_type ?_ (by size_fits)
  simp only [raiseNew]
  refine wpAny_bind (wpAny_handled ?_)
  first|rw [show A.in1.handled=none from hh]|rw [hh]
  refine wpAny_bind (wpAny_pure (wpAny_throw ?_))
  refine wpAny_bind (wpAny_isInstance (T:="StopIteration") (b:=true) ⟨_,Heap.get?_push_size _ rfl,rfl⟩ isSubtype_stop ?_)
  exact wpAny_pure (hQ _ _ fun b o' e=>Heap.get?_push_of_some _ (Heap.get?_push_of_some _ e))
theorem zf8 {slot i ep:Nat} {Q:Option Value→Shared→Prop} (hh:A.handled=none) (hit:IsSI s.heap I S (rawInt slot) i es.size ep) (hs:yb8 s.heap S es ep t) (hT:zfR prog w s S slot i ep none)
    (hQ:∀h' tk,Heap.ExtBut I s.heap h'→Q none { s with heap:=h',toks:=tk }):wpAny (model prog w) A (pyNext (.ref I)) Q E s:=by
  obtain ⟨o,ho,hc,hd⟩:=id hit
  obtain ⟨os,hos,hds,hf⟩:=id hs
  unfold pyNext
  refine wpAny_bind (wpAny_attempt (wpAny_callSpecial?_slot (name:=Str.ofString "__next__") hit.typeIs zal
    (wpAny_call_entry zal hit.typeIs yaT ?_ (zaO _))))
  unfold Builtin.«set_iterator.__next__»
  refine wpAny_bind (wpAny_of_eq (a:=(Value.ref I,[])) rfl ?_)
  try dsimp only
  refine wpAny_bind (wpAny_fieldsOf ho hd ?_)
  simp only [rawInt]
  refine wpAny_bind (wpAny_setEntries_of hos hds hf ?_)
  refine wpAny_ite_split (fun h=>absurd h (by simp)) (fun _=>?_)
  refine wpAny_bind (hT _ _ _ ?_)
  dsimp only
  refine wpAny_bind (wpAny_setField ho hd (by simp) ?_)
  refine zfq (I:=I) hh fun h' tk k=>hQ h' tk fun b o' hb e=>k b o' ((Heap.get?_update_other _ _ (Ne.symm hb)).trans e)
theorem zgk {i ep pl:Nat} {kx:Int×Value} {tk:Tok} {Q:Option Value→Shared→Prop} (hit:IsSI s.heap I S (.ref T) i es.size ep) (hs:yb8 s.heap S es ep t) (ht:s.heap.IsTuple T places)
    (hp:places[i]?=some (.int pl tk)) (hx:es[pl]?=some kx)
    (hQ:∀h',IsSI h' I S (.ref T) (i+1) es.size ep→Heap.SameBut I s.heap h'→Q (some kx.2) { s with heap:=h' }):wpAny (model prog w) A (pyNext (.ref I)) Q E s:=by
  obtain ⟨o,ho,hc,hd⟩:=id hit
  obtain ⟨os,hos,hds,hf⟩:=id hs
  obtain ⟨ot,hot,hct,nt,hdt⟩:=id ht
  unfold pyNext
  refine wpAny_bind (wpAny_attempt (wpAny_callSpecial?_slot (name:=Str.ofString "__next__") hit.typeIs zal
    (wpAny_call_entry zal hit.typeIs yaT ?_ (zaO _))))
  unfold Builtin.«set_iterator.__next__»
  refine wpAny_bind (wpAny_of_eq (a:=(Value.ref I,[])) rfl ?_)
  try dsimp only
  refine wpAny_bind (wpAny_fieldsOf ho hd ?_)
  simp only [rawInt]
  refine wpAny_bind (wpAny_setEntries_of hos hds hf ?_)
  refine wpAny_ite_split (fun h=>absurd h (by simp)) (fun _=>?_)
  unfold seqItems?
  refine wpAny_bind (wpAny_bind (wpAny_load hot ?_))
  rw [hdt]
  refine wpAny_pure ?_
  dsimp only
  rw [Int.toNat_natCast,hp]
  dsimp only
  unfold setNextDrawn
  refine wpAny_bind (wpAny_bind (wpAny_setState_of hos hds hf ?_))
  dsimp only
  refine wpAny_ite_split (fun h=>absurd h (by simp)) (fun _=>?_)
  rw [Int.toNat_natCast,hx]
  obtain ⟨k0,x⟩:=kx
  refine wpAny_pure ?_
  refine wpAny_bind (wpAny_setField ho hd (by simp) ?_)
  refine wpAny_pure ⟨x,rfl,wpAny_pure (hQ _ ?_ (Heap.SameBut.update ..))⟩
  exact ⟨_,Heap.get?_update_self _ ho (Obj.isFreed_of_fields (Obj.data_mapFields hd _)),(Obj.cls_mapFields ..).trans hc,by rw [Obj.data_mapFields hd];simp [rawInt]⟩
theorem zg0 {i ep:Nat} {Q:Option Value→Shared→Prop} (hh:A.handled=none) (hit:IsSI s.heap I S (.ref T) i es.size ep) (hs:yb8 s.heap S es ep t) (ht:s.heap.IsTuple T places)
    (hp:places[i]?=none) (hQ:∀h' tk,Heap.ExtBut I s.heap h'→Q none { s with heap:=h',toks:=tk }):wpAny (model prog w) A (pyNext (.ref I)) Q E s:=by
  obtain ⟨o,ho,hc,hd⟩:=id hit
  obtain ⟨os,hos,hds,hf⟩:=id hs
  obtain ⟨ot,hot,hct,nt,hdt⟩:=id ht
  unfold pyNext
  refine wpAny_bind (wpAny_attempt (wpAny_callSpecial?_slot (name:=Str.ofString "__next__") hit.typeIs zal
    (wpAny_call_entry zal hit.typeIs yaT ?_ (zaO _))))
  unfold Builtin.«set_iterator.__next__»
  refine wpAny_bind (wpAny_of_eq (a:=(Value.ref I,[])) rfl ?_)
  try dsimp only
  refine wpAny_bind (wpAny_fieldsOf ho hd ?_)
  simp only [rawInt]
  refine wpAny_bind (wpAny_setEntries_of hos hds hf ?_)
  refine wpAny_ite_split (fun h=>absurd h (by simp)) (fun _=>?_)
  unfold seqItems?
  refine wpAny_bind (wpAny_bind (wpAny_load hot ?_))
  rw [hdt]
  refine wpAny_pure ?_
  dsimp only
  rw [Int.toNat_natCast,hp]
  dsimp only
  refine wpAny_bind (wpAny_setField ho hd (by simp) ?_)
  have h1:=Heap.get?_update_self (Obj.mapFields (fun vs=>vs.setIfInBounds 0 (Value.int 0 0))) ho (Obj.isFreed_of_fields (Obj.data_mapFields hd _))
  refine wpAny_bind (wpAny_setField h1 (Obj.data_mapFields hd _) (by simp) ?_)
  refine zfq (I:=I) hh fun h' tk k=>hQ h' tk fun b o' hb e=>k b o' ((Heap.get?_update_other _ _ (Ne.symm hb)).trans ((Heap.get?_update_other _ _ (Ne.symm hb)).trans e))
theorem zcO {ep:Nat} (hs:yb8 s.heap S es ep t) (hb:za0 w=true) (slot i:Nat):zfR prog w s S slot i ep (((pickOrder (w.params.setOrder S ep) es)[i]?).map fun e=>(e.2,slot)):=by
  intro A E Q hQ
  obtain ⟨os,hos,hds,hf⟩:=id hs
  unfold setNext setWalk setsByText
  refine wpAny_bind (wpAny_setState_of hos hds hf ?_)
  dsimp only
  refine wpAny_bind (wpAny_bind (wpAny_askSetting (wpAny_pure ?_)))
  refine wpAny_ite_split (fun _=>?_) (fun h=>absurd hb h)
  refine wpAny_ite_split (fun h=>absurd h (by simp)) (fun _=>?_)
  refine wpAny_bind (wpAny_bind (wpAny_setState_of hos hds hf ?_))
  dsimp only
  refine wpAny_bind (wpAny_bind (wpAny_askSetting (wpAny_pure ?_)))
  refine wpAny_ite_split (fun _=>?_) (fun h=>absurd hb h)
  refine wpAny_bind (wpAny_askSetting ?_)
  exact wpAny_pure (wpAny_pure hQ)
theorem ycq {ep:Nat} (hs:yb8 s.heap S es ep t) (hb:za0 w=false) (hl:t.led=true) (hp:t.plain=true∨es.size≤1) (slot i:Nat) :
    zfR prog w s S slot i ep (match es[SetTable.below t.place slot]?,t.place[SetTable.below t.place slot]? with|some (_,x),some j=>some (x,j+1)|_,_=>none):=by
  intro A E Q hQ
  obtain ⟨os,hos,hds,hf⟩:=id hs
  unfold setNext setsByText
  refine wpAny_bind (wpAny_setState_of hos hds hf ?_)
  dsimp only
  refine wpAny_bind (wpAny_bind (wpAny_askSetting (wpAny_pure ?_)))
  refine wpAny_ite_split (fun h=>absurd (show za0 w=true from h) (by rw [hb];decide)) (fun _=>?_)
  refine wpAny_ite_split (fun h=>?_) (fun _=>?_)
  · have h':(!t.plain&&decide (es.size>1))=true:=h
    simp only [Bool.and_eq_true,Bool.not_eq_true',decide_eq_true_eq] at h'
    rcases hp with hp|hp
    · rw [hp] at h';exact absurd h'.1 (by decide)
    · omega
  refine wpAny_bind ?_
  show wpAny _ _ (if (!t.led&&!es.isEmpty)=true then unsupported "set:maker-not-led" else pure ()) _ _ _
  refine wpAny_ite_split (fun h=>absurd h (by rw [hl];simp)) (fun _=>?_)
  refine wpAny_pure ?_
  exact wpAny_pure hQ
end
end L2
end
section
namespace L2
open PySem PyProof.Rows
section
variable {prog:Program} {w:World} {A:Around} {E:Value→Shared→Prop} {s:Shared}
theorem ybV {α:Type}:∀(l:List α) (i:Nat) (h:i<l.length),(l[i]::l.eraseIdx i).Perm l
  | [],i,h=>absurd h (Nat.not_lt_zero _)
  | x::l,0,h=>List.Perm.refl _
  | x::l,i+1,h=>by
    show (l[i]'(by simpa using h)::x::l.eraseIdx i).Perm (x::l)
    exact (List.Perm.swap _ _ _).trans (List.Perm.cons _ (ybV l i (by simpa using h)))
theorem yfh {α:Type} (f:Nat→Nat):∀(n k:Nat) (l:List α) (out:Array α),l.length=n→(pickOrder.go f n k l out).toList.Perm (out.toList++l)
  | 0,k,l,out,h=>by
    have:l=[]:=List.length_eq_zero_iff.mp h
    subst this
    unfold pickOrder.go
    rw [List.append_nil]
  | n+1,k,l,out,h=>by
    have hi:f k%l.length<l.length:=Nat.mod_lt _ (by omega)
    unfold pickOrder.go
    rw [List.getElem?_eq_getElem hi]
    dsimp only
    have ih:=yfh f n (k+1) (l.eraseIdx (f k%l.length)) (out.push l[f k%l.length]) (by rw [List.length_eraseIdx_of_lt hi];omega)
    refine ih.trans ?_
    rw [Array.toList_push,List.append_assoc]
    exact List.Perm.append_left _ (ybV _ _ hi)
theorem ycy {α:Type} (f:Nat→Nat) (xs:Array α):(pickOrder f xs).toList.Perm xs.toList:=by
  have:=yfh f xs.size 0 xs.toList #[] (by simp)
  simpa [pickOrder] using this
theorem zdc {src:Source} {n:Nat} {Q:Nat→Shared→Prop} (hn:n≠0) (h:∀x d',x<n→Q x { s with drawn:=d' }):wpAny M A (choose src n) Q E s:=fun _ _ _=>⟨hn,h _ _ (Nat.mod_lt _ (by omega))⟩
theorem ydl {α:Type}:∀(n:Nat) (xs:List α) (s:Shared) (Q:List α→Shared→Prop),xs.length=n→(∀r d',r.Perm xs→Q r { s with drawn:=d' })→wpAny M A (drawOrder n xs) Q E s
  | 0,xs,s,Q,h,hQ=>by
    have:xs=[]:=List.length_eq_zero_iff.mp h
    subst this
    unfold drawOrder
    exact wpAny_pure (hQ [] s.drawn .nil)
  | n+1,xs,s,Q,h,hQ=>by
    cases xs with
    | nil=>cases h
    | cons y ys =>
      unfold drawOrder
      refine wpAny_bind (zdc (by simp) fun i d' hi=>?_)
      rw [List.getElem?_eq_getElem hi]
      dsimp only
      refine wpAny_bind (ydl n _ _ _ (by rw [List.length_eraseIdx_of_lt hi];simp at h;simp;omega) fun r d2 hr=>?_)
      exact wpAny_pure (hQ _ d2 ((List.Perm.cons _ hr).trans (ybV _ _ hi)))
abbrev GE:Array GenState→Array GenState→Prop:=fun a b=>b=a
theorem zb6:Slot "set_iterator" "__iter__" "set_iterator.__iter__" :=
  .of (owner:="set_iterator") (n:="__iter__") (by rw [typeLookup_type,builtinLookup_eq_fast];kernel_rfl) (by decide +kernel) (by decide +kernel) (by decide +kernel)
    (by first|exact .inl (by decide +kernel)|exact .inr (by decide +kernel)) (by rw [isSubtype_type];kernel_rfl)
theorem zcI (a:Value):argsOk "set_iterator.__iter__" ⟨[a],[]⟩:=by
  unfold argsOk;rw [signature?_of (id:="set_iterator.__iter__") (n:=['_','_','r','e','t','i','_','_']) (o:=['r','o','t','a','r','e','t','i','_','t','e','s']) (by kernel_rfl) ya3];kernel_rfl
theorem zc8:entryFor table "set_iterator.__iter__"=some Builtin.«dict_keyiterator.__iter__» :=
  entryFor_alias (id':="dict_keyiterator.__iter__") (by kernel_rfl) (by first|rfl|decide +kernel|(unfold String.splitOn;simp +decide [String.splitOnAux])) (by decide +kernel) (by kernel_rfl)
theorem zcs {i n ep:Nat} {Q:Value→Shared→Prop} (hit:IsSI s.heap I S first i n ep) (h:Q (.ref I) s):wpAny (model prog w) A (pyIter (.ref I)) Q E s:=by
  refine wpAny_pyIter_slot hit.typeIs zb6 (wpAny_call_entry zb6 hit.typeIs zc8 ?_ (zcI _))
  show wpAny _ _ (ret (.ref I)) _ _ s
  exact wpAny_pure ⟨_,rfl,"set_iterator",_,hit.typeIs,zal.lookup,h⟩
theorem zfp {I S:Addr} {es:Array (Int×Value)} {ep:Nat} {t:SetTable} (hh:A.handled=none) (hne:S≠I) (hb:za0 w=true) :
    WalksS prog w A I [I,S] [I] GE es.size (fun i v=>((pickOrder (w.params.setOrder S ep) es).toList.map (·.2))[i]?=some v) (fun i s=>IsSI s.heap I S (rawInt ((0:Nat):Int)) i es.size ep∧yb8 s.heap S es ep t) where
  sub:=fun b hb=>by simp at hb;simp [hb]
  grefl:=fun _=>rfl
  gtrans:=fun _ _ _ h1 h2=>h2.trans h1
  frame:=fun i s h' tk st _ hk=>⟨st.1.at fun o e=>hk I (by simp) o e,st.2.at fun o e=>hk S (by simp) o e⟩
  item:=fun i s Q E hi st hQ=>by
    have hl:(pickOrder (w.params.setOrder S ep) es).size=es.size:=by rw [←Array.length_toList,(ycy _ es).length_eq,Array.length_toList]
    have hx:(pickOrder (w.params.setOrder S ep) es)[i]?=some (pickOrder (w.params.setOrder S ep) es)[i]:=Array.getElem?_eq_getElem (by omega)
    have hT:=zcO (prog:=prog) st.2 hb 0 i
    rw [hx] at hT
    refine ze2 st.1 st.2 hT fun h' hit' hs'=>?_
    refine hQ _ _ ?_ ⟨hit',st.2.at fun o e=>?_⟩ ⟨fun b o hb e=>?_,rfl,rfl,rfl,Nat.le_refl _⟩
    · rw [List.getElem?_map,Array.getElem?_toList,hx];rfl
    · exact hs'.extBut S o hne e
    · exact hs'.extBut b o (fun q=>hb (by simp [q])) e
  done:=fun s Q E st hQ=>by
    have hl:(pickOrder (w.params.setOrder S ep) es).size=es.size:=by rw [←Array.length_toList,(ycy _ es).length_eq,Array.length_toList]
    have hx:(pickOrder (w.params.setOrder S ep) es)[es.size]?=none:=Array.getElem?_eq_none (by omega)
    have hT:=zcO (prog:=prog) st.2 hb 0 es.size
    rw [hx] at hT
    exact wpAny_with_toks (Nat.le_refl s.toks) (zf8 hh st.1 st.2 hT fun h' tk k htk=>hQ _ ⟨fun b o hb e=>k b o (fun q=>hb (by simp [q])) e,rfl,rfl,rfl,htk⟩)
  self:=fun i s Q E st h=>zcs st.1 h
def zb5 (place:Array Nat):Nat→Nat
  | 0=>0
  | i+1=>place.getD i 0+1
theorem zb4 {place:Array Nat} (h:Rise place):∀i,i≤place.size→SetTable.below place (zb5 place i)=i
  | 0,_=>by
    obtain ⟨h1,h2,h3⟩:=ybX h 0
    show SetTable.below place 0=0
    rcases Nat.eq_zero_or_pos (SetTable.below place 0) with c|c
    · exact c
    · exact absurd (h2 0 (by omega) c) (Nat.not_lt_zero _)
  | i+1,hi=>by
    have e:zb5 place (i+1)=place[i]+1:=by show place.getD i 0+1=_;simp [Array.getD,show i<place.size by omega]
    obtain ⟨h1,h2,h3⟩:=ybX h (zb5 place (i+1))
    rw [e] at h1 h2 h3 ⊢
    generalize SetTable.below place (place[i]+1)=r at *
    rcases Nat.lt_trichotomy r (i+1) with c|c|c
    · have:=h3 i (by omega) (by omega);omega
    · exact c
    · have h4:=h2 (i+1) (by omega) c
      have h5:=ycb h (show i<i+1 by omega) (by omega)
      omega
theorem zeo {I S:Addr} {es:Array (Int×Value)} {ep:Nat} {t:SetTable} (hh:A.handled=none) (hne:S≠I) (hb:za0 w=false) (hl:t.led=true) (hp:t.plain=true∨es.size≤1) (hr:Rise t.place) (hz:t.place.size=es.size) :
    WalksS prog w A I [I,S] [I] GE es.size (fun i v=>(es.toList.map (·.2))[i]?=some v) (fun i s=>IsSI s.heap I S (rawInt (zb5 t.place i:Nat)) i es.size ep∧yb8 s.heap S es ep t) where
  sub:=fun b hb=>by simp at hb;simp [hb]
  grefl:=fun _=>rfl
  gtrans:=fun _ _ _ h1 h2=>h2.trans h1
  frame:=fun i s h' tk st _ hk=>⟨st.1.at fun o e=>hk I (by simp) o e,st.2.at fun o e=>hk S (by simp) o e⟩
  item:=fun i s Q E hi st hQ=>by
    have hT:=ycq (prog:=prog) st.2 hb hl hp (zb5 t.place i) i
    rw [zb4 hr i (by omega),Array.getElem?_eq_getElem hi,Array.getElem?_eq_getElem (show i<t.place.size by omega)] at hT
    refine ze2 (nx:=zb5 t.place (i+1)) (x:=es[i].2) st.1 st.2 ?_ fun h' hit' hs'=>?_
    · have e:zb5 t.place (i+1)=t.place[i]+1:=by show t.place.getD i 0+1=_;simp [Array.getD,show i<t.place.size by omega]
      rw [e];exact hT
    refine hQ _ _ ?_ ⟨hit',st.2.at fun o e=>?_⟩ ⟨fun b o hb e=>?_,rfl,rfl,rfl,Nat.le_refl _⟩
    · rw [List.getElem?_map,Array.getElem?_toList,Array.getElem?_eq_getElem hi];rfl
    · exact hs'.extBut S o hne e
    · exact hs'.extBut b o (fun q=>hb (by simp [q])) e
  done:=fun s Q E st hQ=>by
    have hT:=ycq (prog:=prog) st.2 hb hl hp (zb5 t.place es.size) es.size
    rw [zb4 hr es.size (by omega),Array.getElem?_eq_none (Nat.le_refl _)] at hT
    exact wpAny_with_toks (Nat.le_refl s.toks) (zf8 hh st.1 st.2 hT fun h' tk k htk=>hQ _ ⟨fun b o hb e=>k b o (fun q=>hb (by simp [q])) e,rfl,rfl,rfl,htk⟩)
  self:=fun i s Q E st h=>zcs st.1 h
theorem zeC {I S T:Addr} {es:Array (Int×Value)} {ep:Nat} {t:SetTable} {ps:List Nat} (hh:A.handled=none) (hne:S≠I) (hneT:T≠I) (hps:ps.Perm (List.range es.size)) :
    WalksS prog w A I [I,S,T] [I] GE es.size (fun i v=>(ps.map fun p=>(es.getD p (0,.none)).2)[i]?=some v) (fun i s=>IsSI s.heap I S (.ref T) i es.size ep∧yb8 s.heap S es ep t∧s.heap.IsTuple T (ps.map fun (p:Nat)=>rawInt p).toArray) where
  sub:=fun b hb=>by simp at hb;simp [hb]
  grefl:=fun _=>rfl
  gtrans:=fun _ _ _ h1 h2=>h2.trans h1
  frame:=fun i s h' tk st _ hk=>⟨st.1.at fun o e=>hk I (by simp) o e,st.2.1.at fun o e=>hk S (by simp) o e,st.2.2.at fun o e=>hk T (by simp) o e⟩
  item:=fun i s Q E hi st hQ=>by
    have hl:ps.length=es.size:=by rw [hps.length_eq,List.length_range]
    have hm:∀p∈ps,p<es.size:=fun p hp=>List.mem_range.mp (hps.mem_iff.mp hp)
    have hpi:ps[i]'(by omega)<es.size:=hm _ (List.getElem_mem _)
    refine zgk (pl:=ps[i]'(by omega)) (kx:=es[ps[i]'(by omega)]) (tk:=0) st.1 st.2.1 st.2.2 ?_ (Array.getElem?_eq_getElem hpi) fun h' hit' hs'=>?_
    · rw [List.getElem?_toArray,List.getElem?_map,List.getElem?_eq_getElem (show i<ps.length by omega)];rfl
    refine hQ _ _ ?_ ⟨hit',st.2.1.at fun o e=>hs'.extBut S o hne e,st.2.2.at fun o e=>hs'.extBut T o hneT e⟩ ⟨fun b o hb e=>hs'.extBut b o (fun q=>hb (by simp [q])) e,rfl,rfl,rfl,Nat.le_refl _⟩
    rw [List.getElem?_map,List.getElem?_eq_getElem (show i<ps.length by omega)]
    simp [Array.getD,hpi]
  done:=fun s Q E st hQ=>by
    have hl:ps.length=es.size:=by rw [hps.length_eq,List.length_range]
    exact wpAny_with_toks (Nat.le_refl s.toks) (zg0 hh st.1 st.2.1 st.2.2 (by rw [List.getElem?_toArray,List.getElem?_eq_none (by simp;omega)]) fun h' tk k htk=>hQ _ ⟨fun b o hb e=>k b o (fun q=>hb (by simp [q])) e,rfl,rfl,rfl,htk⟩)
  self:=fun i s Q E st h=>zcs st.1 h
theorem yez {es:Array (Int×Value)} {ps:List Nat} (hps:ps.Perm (List.range es.size)):(ps.map fun p=>(es.getD p (0,.none)).2).Perm (es.toList.map (·.2)):=by
  refine (hps.map _).trans ?_
  have e:(List.range es.size).map (fun p=>(es.getD p (0,Value.none)).2)=es.toList.map (·.2):=by
    apply List.ext_getElem
    · simp
    · intro i h1 h2
      simp at h1
      simp [Array.getD,h1]
  rw [e]
noncomputable def zg6 (prog:Program) (w:World) (S:Addr) (es:Array (Int×Value)) (s0 s:Shared) (I:Addr):Prop :=
  Ex3 fun (vs:List Value) (fp:List Addr) (St:Nat→Shared→Prop)=>vs.Perm (es.toList.map (·.2))∧(∀A:Around,A.handled=none→WalksS prog w A I fp [I] GE es.size (fun i v=>vs[i]?=some v) St)∧St 0 s∧(∀b∈fp,b<s.heap.objs.size)∧I∈fp∧s.TypeIs (.ref I) "set_iterator"∧
    (∀b o,s0.heap.get? b=some o→s.heap.get? b=some o)∧s0.heap.objs.size≤I∧s.gens=s0.gens∧s.os=s0.os∧s0.toks≤s.toks∧∀b∈fp,b=S∨s0.heap.objs.size≤b
theorem zex {xs:Array Nat} (h:xs.size≤1):Rise xs:=by
  unfold Rise
  rw [←Array.length_toList] at h
  match xs.toList,h with
  | [],_=>exact .nil
  | [x],_=>exact List.pairwise_singleton _ _
theorem zfx {ep:Nat} {Q:Value→Shared→Prop} (ho:s.heap.get? S=some o) (hc:o.cls = .type "set") (hd:o.data = .set es ep t) (hf:t.fits es.size=true) (hb:es.size<scanBound) (hG:TabG (!za0 w) t)
    (hQ:∀I s',zg6 prog w S es s s' I→Q (.ref I) s'):wpAny (model prog w) A (pyIter (.ref S)) Q E s:=by
  have hT:s.TypeIs (.ref S) "set":=⟨o,ho,hc⟩
  have hSlt:=Heap.lt_size ho
  have hz:t.place.size=es.size:=by
    have:=hf
    unfold SetTable.fits at this
    simp only [Bool.and_eq_true,beq_iff_eq] at this
    exact this.1
  refine wpAny_pyIter_slot hT F.slot_set_iter (wpAny_call_entry F.slot_set_iter hT ycH ?_ (F.args_set_iter_1 _))
  unfold Builtin.«frozenset.__iter__» Builtin.Frozenset.slot0 Builtin.Frozenset.sizeOf
  refine wpAny_bind (wpAny_of_eq (a:=S) rfl ?_)
  refine wpAny_bind (wpAny_bind (wpAny_setEntries_of ho hd hf (wpAny_pure ?_)))
  unfold setDrawn setsByText
  refine wpAny_bind (wpAny_bind (wpAny_setState_of ho hd hf ?_))
  dsimp only
  refine wpAny_bind (wpAny_bind (wpAny_askSetting (wpAny_pure (wpAny_pure ?_))))
  refine wpAny_ite_split (fun h=>?_) (fun h=>?_)
  · have h':(!za0 w&&(!t.plain&&decide (es.size>1)))=true:=h
    refine wpAny_bind (ydl _ _ _ _ List.length_range fun ps d' hps=>?_)
    have hlen:ps.length=es.size:=by rw [hps.length_eq,List.length_range]
    refine wpAny_bind (wpAny_newTuple ?_ (by rw [List.length_map,hlen];exact fits_of_scanBound hb))
    have o1:(s.heap.push { cls:=.type "tuple",data:=.seq (ps.map fun (p:Nat)=>rawInt p).toArray }).get? S=some o:=Heap.get?_push_of_some _ ho
    unfold setEpoch
    refine wpAny_bind (wpAny_bind (wpAny_setState_of o1 hd hf (wpAny_pure ?_)))
    unfold newFields
    refine wpAny_bind (wpAny_newObj_type ?_ (by size_fits))
    refine wpAny_pure ⟨_,rfl,"set_iterator",_,⟨_,Heap.get?_push_size _ rfl,rfl⟩,zal.lookup,hQ _ _ ?_⟩
    have hI:(s.heap.push { cls:=.type "tuple",data:=.seq (ps.map fun (p:Nat)=>rawInt p).toArray }).objs.size=s.heap.objs.size+1:=Heap.size_push _ _
    have e2:∀b o',s.heap.get? b=some o'→((s.heap.push { cls:=.type "tuple",data:=.seq (ps.map fun (p:Nat)=>rawInt p).toArray }).push { cls:=.type "set_iterator",data:=.fields #[.ref s.heap.objs.size,rawInt 0,.ref S,rawInt es.size,rawInt ep] }).get? b=some o':=fun b o' e=>Heap.get?_push_of_some _ (Heap.get?_push_of_some _ e)
    refine ⟨_,[(s.heap.push { cls:=.type "tuple",data:=.seq (ps.map fun (p:Nat)=>rawInt p).toArray }).objs.size,S,s.heap.objs.size],_,yez hps,fun A hh=>zeC (t:=t) (ep:=ep) hh ?_ ?_ hps,⟨⟨_,Heap.get?_push_size _ rfl,rfl,rfl⟩,⟨o,e2 S o ho,hd,hf⟩,⟨_,Heap.get?_push_of_some _ (Heap.get?_push_size _ rfl),rfl,0,rfl⟩⟩,?_,by simp,⟨_,Heap.get?_push_size _ rfl,rfl⟩,e2,?_,rfl,rfl,Nat.le_refl _,?_⟩
    · rw [hI];exact Nat.ne_of_lt (Nat.lt_succ_of_lt hSlt)
    · rw [hI];exact Nat.ne_of_lt (Nat.lt_succ_self _)
    · intro b hb
      simp only [List.mem_cons,List.not_mem_nil,or_false] at hb
      show b<((s.heap.push _).push _).objs.size
      rw [Heap.size_push,hI]
      rcases hb with rfl|rfl|rfl
      · rw [hI];exact Nat.lt_succ_self _
      · exact Nat.lt_succ_of_lt (Nat.lt_succ_of_lt hSlt)
      · exact Nat.lt_succ_of_lt (Nat.lt_succ_self _)
    · show s.heap.objs.size≤(s.heap.push _).objs.size
      rw [hI];exact Nat.le_succ _
    · intro b hb
      simp only [List.mem_cons,List.not_mem_nil,or_false] at hb
      rcases hb with rfl|rfl|rfl
      · right;rw [hI];exact Nat.le_succ _
      · exact .inl rfl
      · exact .inr (Nat.le_refl _)
  · have h':¬ (!za0 w&&(!t.plain&&decide (es.size>1)))=true:=h
    refine wpAny_bind (wpAny_pure ?_)
    unfold setEpoch
    refine wpAny_bind (wpAny_bind (wpAny_setState_of ho hd hf (wpAny_pure ?_)))
    unfold newFields
    refine wpAny_bind (wpAny_newObj_type ?_ (by size_fits))
    refine wpAny_pure ⟨_,rfl,"set_iterator",_,⟨_,Heap.get?_push_size _ rfl,rfl⟩,zal.lookup,hQ _ _ ?_⟩
    have e2:∀b o',s.heap.get? b=some o'→(s.heap.push { cls:=.type "set_iterator",data:=.fields #[rawInt 0,rawInt 0,.ref S,rawInt es.size,rawInt ep] }).get? b=some o':=fun b o' e=>Heap.get?_push_of_some _ e
    have hin:∀b∈[s.heap.objs.size,S],b<(s.heap.push { cls:=.type "set_iterator",data:=.fields #[rawInt 0,rawInt 0,.ref S,rawInt es.size,rawInt ep] }).objs.size:=by
      intro b hb
      simp only [List.mem_cons,List.not_mem_nil,or_false] at hb
      rw [Heap.size_push]
      rcases hb with rfl|rfl
      · exact Nat.lt_succ_self _
      · exact Nat.lt_succ_of_lt hSlt
    have hin2:∀b∈[s.heap.objs.size,S],b=S∨s.heap.objs.size≤b:=by
      intro b hb
      simp only [List.mem_cons,List.not_mem_nil,or_false] at hb
      rcases hb with rfl|rfl
      · exact .inr (Nat.le_refl _)
      · exact .inl rfl
    by_cases hbt:za0 w=true
    · exact ⟨_,[s.heap.objs.size,S],_,(ycy (w.params.setOrder S ep) es).map _,fun A hh=>zfp (t:=t) (ep:=ep) hh (Nat.ne_of_lt hSlt) hbt,⟨⟨_,Heap.get?_push_size _ rfl,rfl,rfl⟩,⟨o,e2 S o ho,hd,hf⟩⟩,hin,by simp,⟨_,Heap.get?_push_size _ rfl,rfl⟩,e2,Nat.le_refl _,rfl,rfl,Nat.le_refl _,hin2⟩
    · have hbf:za0 w=false:=by simpa using hbt
      have hled:t.led=true:=by rw [hG.led,hbf];rfl
      have hp:t.plain=true∨es.size≤1:=by
        rw [hbf] at h'
        cases hpl:t.plain
        · rw [hpl] at h'
          simp at h'
          exact .inr h'
        · exact .inl rfl
      have hr:Rise t.place:=by
        rcases hp with hp|hp
        · exact hG.rise hp
        · exact zex (by omega)
      exact ⟨_,[s.heap.objs.size,S],_,List.Perm.refl _,fun A hh=>zeo (t:=t) (ep:=ep) hh (Nat.ne_of_lt hSlt) hbf hled hp hr hz,⟨⟨_,Heap.get?_push_size _ rfl,rfl,rfl⟩,⟨o,e2 S o ho,hd,hf⟩⟩,hin,by simp,⟨_,Heap.get?_push_size _ rfl,rfl⟩,e2,Nat.le_refl _,rfl,rfl,Nat.le_refl _,hin2⟩
end
end L2
end
section
namespace L2
open PySem PyProof.Rows
theorem ydt:typeLookup (.type "set") "__len__"=pure (some (.builtin "set.__len__")):=by rw [typeLookup_type,builtinLookup_eq_fast];kernel_rfl
section
variable {prog:Program} {w:World} {A:Around} {E:Value→Shared→Prop} {s:Shared}
structure Left (s s':Shared):Prop where
  heap:∀b o,s.heap.get? b=some o→s'.heap.get? b=some o
  gens:s'.gens=s.gens
  os:s'.os=s.os
  toks:s.toks≤s'.toks
  size:s.heap.objs.size≤s'.heap.objs.size
theorem zfA {n:Nat} (hn:vs.length=n) (h:ItemsOf (fun i v=>vs[i]?=some v) acc n):acc.toList=vs:=by
  refine List.ext_getElem? fun i=>?_
  by_cases c:i<n
  · have h1:acc[i]?=some (acc[i]'(by rw [h.1];exact c)):=Array.getElem?_eq_getElem _
    rw [Array.getElem?_toList,h1]
    exact (h.2 i _ h1).symm
  · rw [Array.getElem?_toList,Array.getElem?_eq_none (by rw [h.1];lia),List.getElem?_eq_none (by lia)]
theorem zcE {ep:Nat} {Q:List Value→Shared→Prop} (hh:A.handled=none) (ho:s.heap.get? S=some o) (hc:o.cls = .type "set") (hd:o.data = .set es ep t) (hf:t.fits es.size=true) (hb:es.size<scanBound) (hG:TabG (!za0 w) t)
    (hQ:∀vs s',vs.Perm (es.toList.map (·.2))→Left s s'→Q vs s'):wpAny (model prog w) A (collect (.ref S)) Q E s:=by
  have hSlt:=Heap.lt_size ho
  unfold collect
  refine wpAny_bind (wpAny_runValue (codeAny_builtin F.entry_proto_collect ?_))
  rw [Around.under_plainId F.plain_proto_collect _]
  show wpAny _ A.in1 (newList [] >>= fun l=>again (.builtin "list.__iadd__" ⟨[l,.ref S],[]⟩)) _ _ s
  refine wpAny_bind (wpAny_newObj_type ?_)
  refine wpAny_pure ⟨plainId_quiet F.plain_list_iadd _,codeAny_builtin F.entry_list_iadd ?_⟩
  rw [Around.under_plainId F.plain_list_iadd _]
  have ho1:(s.heap.push { cls:=.type "list",data:=.seq ([]:List Value).toArray }).get? S=some o:=Heap.get?_push_of_some _ ho
  have hS1:(s.heap.push { cls:=.type "list",data:=.seq ([]:List Value).toArray }).get? s.heap.objs.size=some { cls:=.type "list",data:=.seq ([]:List Value).toArray }:=Heap.get?_push_size _ rfl
  have h1:Builtin.List.listSameRef (.ref s.heap.objs.size) (.ref S)=false:=by simp [Builtin.List.listSameRef];exact Nat.ne_of_gt hSlt
  show wpAny _ A.in1 (Builtin.List.listExtendWith (.ref s.heap.objs.size) (.ref S) (.ref s.heap.objs.size)) _ _ _
  unfold Builtin.List.listExtendWith
  refine wpAny_bind (wpAny_typeOf (T:="set") ⟨o,ho1,hc⟩ ?_)
  rw [if_neg (by rw [h1];decide)]
  refine wpAny_bind (zfx ho1 hc hd hf hb hG fun I s2 hq=>?_)
  obtain ⟨vs,fp,St,hp,hW,hst,hfp,hI,hT,hk,hge,hg,hos,htk,hfs⟩:=hq
  have ho2:=hk S o ho1
  have hS2:=hk _ _ hS1
  refine wpAny_bind (wpAny_holding ?_)
  unfold Builtin.List.listLengthHint
  refine wpAny_bind (wpAny_specialOf (T:="set") ⟨o,ho2,hc⟩ ydt ?_)
  (generalize hid:("set.__len__":String)=id0;(fail_if_success (clear hid id0));wp_delta;rw [show splitId id0=some ("set","__len__") from by subst hid;decide +kernel];subst hid)
  refine wpAny_bind (wpAny_isInstance (T:="set") (b:=true) ⟨o,ho2,hc⟩ (by rw [isSubtype_type];kernel_rfl) ?_)
  refine wpAny_ite_split (fun h=>absurd h (by decide)) (fun _=>?_)
  refine wpAny_ite_split (fun _=>?_) (fun h=>(h (by decide +kernel)).elim)
  refine wpAny_bind (wpAny_typeOf (T:="set") ⟨o,ho2,hc⟩ ?_)
  refine wpAny_pure ?_
  refine wpAny_ite_split (fun _=>?_) (fun h=>(h (by decide +kernel)).elim)
  refine wpAny_bind (wpAny_rule ?_)
  refine wpAny_bind ?_
  show wpAny _ A.in1 (updateSeq s.heap.objs.size (·.push .none) >>= fun _=>updateSeq s.heap.objs.size (·.pop)) _ _ _
  refine wpAny_bind (wpAny_updateSeq hS2 rfl ?_)
  have hS3:=Heap.get?_update_self (Obj.mapSeq (·.push Value.none)) hS2 rfl
  refine wpAny_updateSeq hS3 rfl ?_
  have hS4:=Heap.get?_update_self (Obj.mapSeq (·.pop)) hS3 rfl
  have hlt:s.heap.objs.size<I:=by
    have:=hge
    rw [show (s.heap.push { cls:=.type "list",data:=.seq ([]:List Value).toArray }).objs.size=s.heap.objs.size+1 from Heap.size_push _ _] at this
    exact this
  have W:=hW A.in1 hh
  have hSf:s.heap.objs.size∉fp:=fun hm=>by
    rcases hfs _ hm with h|h
    · exact absurd h (Nat.ne_of_gt hSlt)
    · rw [show (s.heap.push { cls:=.type "list",data:=.seq ([]:List Value).toArray }).objs.size=s.heap.objs.size+1 from Heap.size_push _ _] at h
      exact absurd h (Nat.not_succ_le_self _)
  have oth:∀b o',b≠s.heap.objs.size→s2.heap.get? b=some o'→((s2.heap.update s.heap.objs.size (Obj.mapSeq (·.push Value.none))).update s.heap.objs.size (Obj.mapSeq (·.pop))).get? b=some o' :=
    fun b o' hb e=>(Heap.get?_update_other _ _ (Ne.symm hb)).trans ((Heap.get?_update_other _ _ (Ne.symm hb)).trans e)
  have hlen:vs.length=es.size:=by rw [hp.length_eq,List.length_map,Array.length_toList]
  refine wpAny_pure ⟨plainId_quiet F.plain_extend_loop _,codeAny_extend_loopS W (fits_of_scanBound hb) _ hSf _ es.size 0 _ _ _ rfl (Nat.zero_le _)
    (W.frame 0 s2 _ s2.toks hst (Nat.le_refl _) fun b hb o e=>oth b o (fun h=>hSf (h ▸ hb)) e) hS4 (ItemsOf.nil _) fun s' acc' c' hm hS' hacc=>?_⟩
  show wpAny _ A (load s.heap.objs.size >>= _) _ _ s'
  refine wpAny_bind (wpAny_load hS' ?_)
  refine wpAny_pure ?_
  rw [zfA hlen hacc]
  refine hQ vs s' hp ⟨fun b o' e=>?_,?_,?_,?_,Nat.le_of_lt (Heap.lt_size hS')⟩
  · have hb:=Heap.lt_size e
    refine hm.heap b o' ?_ (oth b o' (Nat.ne_of_lt hb) (hk b o' (Heap.get?_push_of_some _ e)))
    simp only [List.mem_cons,List.not_mem_nil,or_false,not_or]
    exact ⟨Nat.ne_of_lt hb,Nat.ne_of_lt (Nat.lt_trans hb hlt)⟩
  · exact hm.gens.trans hg
  · exact hm.os.trans hos
  · exact Nat.le_trans htk hm.toks
end
end L2
end
section
namespace L2
open PySem PyProof.Rows
theorem zbs {α:Type} [BEq α] [LawfulBEq α]:∀ {σ τ:List α},σ.Nodup→(∀x∈σ,x∈τ)→σ.length≤τ.length
  | [],_,_,_=>Nat.zero_le _
  | x::σ,τ,h,hs=>by
    have hx:x∈τ:=hs x List.mem_cons_self
    have h2:=List.nodup_cons.mp h
    have:=zbs (σ:=σ) (τ:=τ.erase x) h2.2 fun y hy=>(List.mem_erase_of_ne (fun e=>h2.1 (by rw [←e];exact hy))).mpr (hs y (List.mem_cons_of_mem _ hy))
    rw [List.length_erase_of_mem hx] at this
    have hp:0 < τ.length:=List.length_pos_of_mem hx
    simp only [List.length_cons]
    omega
theorem yb1 {α:Type} [BEq α] [LawfulBEq α]:∀ {σ τ:List α},σ.Nodup→(∀x∈σ,x∈τ)→τ.length≤σ.length→σ.Perm τ
  | [],τ,_,_,hl=>by
    have:τ=[]:=List.length_eq_zero_iff.mp (by simpa using hl)
    rw [this]
  | x::σ,τ,h,hs,hl=>by
    have hx:x∈τ:=hs x List.mem_cons_self
    have h2:=List.nodup_cons.mp h
    have ih:=yb1 (σ:=σ) (τ:=τ.erase x) h2.2 (fun y hy=>(List.mem_erase_of_ne (fun e=>h2.1 (by rw [←e];exact hy))).mpr (hs y (List.mem_cons_of_mem _ hy))) (by rw [List.length_erase_of_mem hx];simp at hl;omega)
    exact (List.Perm.cons x ih).trans (List.perm_cons_erase hx).symm
theorem yaO (val:Nat→Int):∀i,(firstMet val i).Nodup
  | 0=>List.nodup_nil
  | i+1=>by
    rw [firstMet_succ]
    unfold step_dedup
    split
    · exact yaO val i
    · rename_i hn
      refine List.nodup_append.mpr ⟨yaO val i,by simp,fun a ha b hb=>?_⟩
      rw [List.mem_singleton] at hb
      intro e
      exact hn (List.any_eq_true.mpr ⟨a,ha,by rw [e,hb];exact beq_self_eq_true _⟩)
theorem zaR (ns:List Int) (k:Int):k∈firstMet (fun i=>ns.getD i 0) ns.length↔k∈ns:=by
  have h:=firstMet_any (fun i=>ns.getD i 0) ns.length k
  have e:(List.range ns.length).map (fun i=>ns.getD i 0)=ns:=by
    apply List.ext_getElem
    · simp
    · intro i h1 h2
      simp [List.getD,h2]
  rw [e] at h
  have c:∀l:List Int,l.any (·==k)=true↔k∈l:=fun l=>by
    rw [List.any_eq_true]
    exact ⟨fun ⟨x,hx,q⟩=>by rw [←eq_of_beq q];exact hx,fun hk=>⟨k,hk,beq_self_eq_true _⟩⟩
  rw [←c,←c,h]
section
variable {prog:Program} {w:World} {A:Around} {E:Value→Shared→Prop} {s:Shared}
theorem ycJ:∀ {vs:List Value},(∀v∈vs,Ex2 fun k t=>v = .int k t)→∃ns,IntsAre vs ns∧∀k,k∈ns↔∃v∈vs,∃t,v = .int k t
  | [],_=>⟨[],.nil,fun k=>⟨fun h=>(nomatch h),fun ⟨v,h,_⟩=>(nomatch h)⟩⟩
  | v::vs,h=>by
    obtain ⟨ns,hn,hm⟩:=ycJ fun v' hv=>h v' (List.mem_cons_of_mem _ hv)
    obtain ⟨k,t,rfl⟩:=h v List.mem_cons_self
    refine ⟨k::ns,.cons k t hn,fun k'=>⟨fun hk=>?_,fun ⟨v',hv,t',e⟩=>?_⟩⟩
    · rcases List.mem_cons.mp hk with rfl|hk
      · exact ⟨_,List.mem_cons_self,t,rfl⟩
      · obtain ⟨v',hv,t',e⟩:=(hm k').mp hk
        exact ⟨v',List.mem_cons_of_mem _ hv,t',e⟩
    · rcases List.mem_cons.mp hv with rfl|hv
      · cases e;exact List.mem_cons_self
      · exact List.mem_cons_of_mem _ ((hm k').mpr ⟨v',hv,t',e⟩)
theorem zev {Sm:Int→Bool} {n:Nat} {Q:Value→Shared→Prop} (hh:A.handled=none) (hS:SetG w prog s.heap S Sm n) (h64:n<64)
    (hQ:∀(h':Heap) (d':Drawn) (tk:Nat) (L:Addr) (ns':List Int) (out:Array Value) (e:Nat),IntsAre out.toList ns'→ns'.length=n→(∀k,k∈ns'↔Sm k=true)→ns'.Pairwise (·≤·)→(∀b o,s.heap.get? b=some o→h'.get? b=some o)→s.heap.objs.size≤L→
      h'.get? L=some (seqObj "list" out e)→Q (.ref L) { heap:=h',gens:=s.gens,drawn:=d',toks:=tk,os:=s.os }) :
    wpAny (model prog w) A (call (.builtin "sorted") [.ref S]) Q E s:=by
  obtain ⟨o,es,ep,t,ho,hex,hd,hel,hmem,hb,hf,hn,hG⟩:=hS
  refine Calls.call_function_entry kind_sorted plain_sorted entry_sorted (args_sorted1 _) ?_
  unfold Builtin.«sorted»
  refine wpAny_bind (m:=checkCount "sorted" 1 1 _) (wpAny_pure ?_)
  refine wpAny_bind (zcE (by simp [hh]) ho hex.1 hd hf hb hG fun vs s2 hp hL=>?_)
  have hall:∀v∈vs,Ex2 fun k t=>v = .int k t:=fun v hv=>by
    obtain ⟨e,he,rfl⟩:=List.mem_map.mp (hp.mem_iff.mp hv)
    obtain ⟨⟨k,hk,_⟩,_⟩:=hel e he
    obtain ⟨t,ht⟩:=Value.isInt_shape hk
    exact ⟨k,t,ht⟩
  obtain ⟨ns,hI,hm⟩:=ycJ hall
  have hl:vs.length=n:=by rw [hp.length_eq,List.length_map,Array.length_toList,hn]
  refine wpAny_bind (wpAny_newList ?_)
  have hoL:(s2.heap.push (seqObj "list" vs.toArray 0)).get? s2.heap.objs.size=some (seqObj "list" vs.toArray 0):=Heap.get?_push_size _ rfl
  refine wpAny_bind (wpAny_holding (wpAny_call_entry slot_list_sort ⟨_,hoL,rfl⟩ entry_list_sort (list_sort_tree hoL hI (by omega) fun out ns' a1 a2 a3=>⟨_,rfl,?_⟩) (args_list_sort _)))
  refine wpAny_pure ⟨_,rfl,?_⟩
  obtain ⟨e,he⟩:=sortedHeap_at (out:=out) hoL
  have hle:=hL.size
  have hk:=hL.heap
  have hg:=hL.gens
  have hos:=hL.os
  obtain ⟨h2,g2,d2,t2,o2⟩:=s2
  dsimp only at hg hos
  subst hg;subst hos
  refine hQ _ _ _ _ ns' out e a1 ?_ ?_ a3 (fun b ob eb=>?_) hle he
  · rw [a2.length_eq,←IntsAre.length hI];exact hl
  · intro k
    rw [a2.mem_iff,hm,hmem]
    constructor
    · rintro ⟨v,hv,t',rfl⟩
      obtain ⟨e',he',q⟩:=List.mem_map.mp (hp.mem_iff.mp hv)
      exact ⟨e',he',by rw [q];exact intKind_is _ _ _ _⟩
    · rintro ⟨e',he',q⟩
      obtain ⟨t',ht⟩:=Value.isInt_shape q
      exact ⟨e'.2,hp.mem_iff.mpr (List.mem_map_of_mem he'),t',ht⟩
  · have hlt:=Heap.lt_size (hk b ob eb)
    rw [sortedHeap_old (Nat.ne_of_lt hlt) (by rw [show (h2.push (seqObj "list" vs.toArray 0)).objs.size=h2.objs.size+1 from Heap.size_push _ _];exact Nat.lt_succ_of_lt hlt)]
    exact Heap.get?_push_of_some _ (hk b ob eb)
end
end L2
end
section
namespace L2
open PySem PyProof.Rows
theorem ycv:bootBuiltins "set"=some (.type "set"):=by decide +kernel
theorem ybE:bootBuiltins "sorted"=some (.builtin "sorted"):=by decide +kernel
section
variable {X:Cx}
theorem Inv.redraw (I:Inv X pins σ H s) (h1:s'.heap=s.heap) (h2:s'.gens=s.gens) (h3:s'.os=s.os):Inv X pins σ H s' :=
  ⟨I.ok,by rw [h3];exact I.os,by rw [h2];exact I.bare,by rw [h1];exact I.base,by rw [h1];exact I.loc,by rw [h1];exact I.cell,I.free,I.freeC,by rw [h1];exact I.pin,by rw [h1];exact I.hok,I.len⟩
theorem Inv.more {tk:Nat} (I:Inv X pins σ H s) (k:∀b o,s.heap.get? b=some o→h'.get? b=some o):Inv X pins σ H { s with heap:=h',toks:=tk } :=
  I.turnedL (fp:=[]) (fun b hb=>nomatch hb) fun b o _ e=>k b o e
noncomputable def yfX (K:PySem.W.Frag) (te:TE):TE:=fun σ H Q=>te σ H fun x H1=>Ex2 fun (a:Addr) (ns:List Int)=>x = .ref a∧SqL K H1 a (ns.map V.int)∧ns.length<4000∧(∀ks:List Int,ks.Nodup→(∀k∈ks,k∈ns)→ks.length<64)∧
  ∀(l:Addr) (ns':List Int),H1 l=none→ns'.Pairwise (· < ·)→(∀k,k∈ns'↔k∈ns)→Q (.ref l) (upd H1 l (.lst (ns'.map V.int)))
theorem yeu {e:Expr} {te:TE} {p1 p2 pos pos2:Pos} (hc:X.calm=true) (hg1:Gl X "sorted") (hm1:X.mg "sorted"=none) (hg2:Gl X "set") (hm2:X.mg "set"=none) (he:PE X e te)
    (hs:starEach [e] X.env=[(false,eval e X.env)]:=by rfl) (hs2:starEach [.Call (.Name "set" p2) [e] [] pos2] X.env=[(false,eval (.Call (.Name "set" p2) [e] [] pos2) X.env)]:=by rfl) :
    PE X (.Call (.Name "sorted" p1) [.Call (.Name "set" p2) [e] [] pos2] [] pos) (yfX X.K te):=by
  intro pins s σ H Q I h
  refine wpAny_Call_Name_kw (zbk I hg1 hm1 ybE ?_ (by decide) (by decide))
  refine PyProof.Rows.callWith_builtin1 ?_ hs2 rfl
  rw [hs2]
  show wpAny _ _ (spliced ((false,eval (.Call (.Name "set" p2) [e] [] pos2) X.env)::[])) _ _ s
  refine Calls.spliced_cons ?_
  refine wpAny_Call_Name_kw (zbk I hg2 hm2 ycv ?_ (by decide) (by decide))
  refine PyProof.Rows.callWith_type1 ?_ hs rfl
  rw [hs]
  show wpAny _ _ (spliced ((false,eval e X.env)::[])) _ _ s
  refine Calls.spliced_cons (thn (he pins s σ H _ I h) fun u s1 hq=>?_)
  obtain ⟨x,H1,I1,r1,a,ns,ex,ha,hl,h64,q⟩:=hq
  subst ex
  cases r1
  refine Calls.spliced_nil ?_
  obtain ⟨its,r2,p2,z2⟩:=I1.list ha
  have hlen:=r2.length
  rw [List.length_map] at hlen
  have hh:=I1.ok.hd hc
  refine zeB hh p2.isList (by simpa using yca r2) (by rw [List.size_toArray];unfold scanBound;lia) fun h2 tk2 hS hk=>?_
  refine Calls.spliced_nil ?_
  have I2:Inv X pins σ H1 { s1 with heap:=h2,toks:=tk2 }:=I1.more hk
  have hsz:its.toArray.size=ns.length:=by rw [List.size_toArray,hlen]
  rw [hsz] at hS
  have hfm:=yaO (fun i=>ns.getD i 0) ns.length
  refine zev (s:={ s1 with heap:=h2,toks:=tk2 }) hh hS (h64 _ hfm fun k hk=>(zaR ns k).mp hk) fun h3 d3 tk3 L ns' out e3 b1 b2 b3 b4 b5 b6 b7=>?_
  have hmem:∀k,k∈ns'↔k∈firstMet (fun i=>ns.getD i 0) ns.length:=fun k=>by
    rw [b3]
    constructor
    · intro h
      obtain ⟨y,hy,q⟩:=List.any_eq_true.mp h
      rw [←eq_of_beq q];exact hy
    · intro h;exact List.any_eq_true.mpr ⟨k,h,beq_self_eq_true _⟩
  have hnd:ns'.Nodup:=(yb1 hfm (fun k hk=>(hmem k).mpr hk) (by rw [b2];exact Nat.le_refl _)).nodup_iff.mp hfm
  have hlt:ns'.Pairwise (· < ·):=by
    refine List.Pairwise.imp₂ (fun a b h1 h2=>?_) b4 hnd
    lia
  have r3:Vals (ns'.map V.int) out.toList:=zbn b1
  have I3:Inv X pins σ (upd H1 L (.lst (ns'.map V.int))) { s1 with heap:=h3,toks:=tk3 }:=I2.laid (a:=L) (t':=tk3) (o:=.lst (ns'.map V.int)) b5 b6 ⟨?_,out.toList,e3,r3,?_⟩
  · refine ⟨.ref L,_,I3.redraw rfl rfl rfl,rfl,q L ns' (I2.hok.fresh b6) hlt fun k=>(hmem k).trans (zaR ns k)⟩
  · rw [List.length_map,b2]
    have:=h64 _ hfm fun k hk=>(zaR ns k).mp hk
    have:=sizeLine_eq
    lia
  · rw [b7]
end
end L2
end
section
namespace L2
open PySem PySem.Spec PyProof.Rows
section
variable {X:Cx}
noncomputable def yhr (K:PySem.W.Frag):List V→Hp→VK→Prop:=fun vs H Q=>Ex2 fun (a:Addr) (ns:List Int)=>vs=[.ref a]∧SqL K H a (ns.map V.int)∧0<ns.length∧∀M,M∈ns→(∀a∈ns,a≤M)→Q (.int M) H
theorem zfl (hc:X.calm=true):zaY X (.builtin "max") (yhr X.K):=by
  intro pins s σ H xs us Q I r h
  obtain ⟨a,ns,rfl,ha,hl,q⟩:=h
  obtain ⟨u,rfl,rx⟩:=zcH r
  cases rx
  obtain ⟨its,r1,p1,z1⟩:=I.list ha
  have hi:IntsAre its ns:=yca r1
  have hlist:=p1.isList
  obtain ⟨ys,e⟩:=hi.allInts.items
  have hns:ns=ys.toList.map (·.1):=by rw [←hi.numsOf,←nums_intItems,←e]
  have hsz:0<ys.size:=by
    have h3:=hl;rw [hns,List.length_map,Array.length_toList] at h3;exact h3
  rw [e] at hlist
  refine max_intList (I.ok.hd hc) hlist hsz fun v h' tk hv hk=>?_
  obtain ⟨t,rfl⟩:=intItems_at hv
  obtain ⟨h1,h2⟩:=argBest_gt (numAt ys) (ys.size-1)
  refine ⟨.int _,H,I.more (fun b o eb=>hk b o eb),ycf _ _,q _ ?_ fun b hb=>?_⟩
  · rw [hns,numAt_eq];exact getD_mem (by rw [List.length_map,Array.length_toList];omega)
  · rw [hns] at hb
    obtain ⟨j,hj,rfl⟩:=mem_getD hb
    rw [List.length_map,Array.length_toList] at hj
    rw [←numAt_eq];exact h2 j (by omega)
end
end L2
end
section
namespace HT
open PySem PyProof.Rows
section
variable {prog:Program} {w:World} {A:Around} {E:Value→Shared→Prop} {s:Shared}
theorem zb9 {n:Nat} {Q:Int×Int×Nat→Shared→Prop} (hs:s.heap.IsSliceOf sl .none .none (.int (-1) t))
    (h:Q ((n:Int)-1,-1,n) s):wpAny (model prog w) A (Builtin.Slice.sliceApplied (.ref sl) (pure (n:Int))) Q E s:=by
  obtain ⟨os,hos,hcs,hds⟩:=id hs
  unfold Builtin.Slice.sliceApplied Builtin.Slice.sliceFields
  refine wpAny_bind (wpAny_bind (wpAny_field hos hds (x:=.none) rfl (wpAny_bind (wpAny_field hos hds (x:=.none) rfl (wpAny_bind (wpAny_field hos hds (x:=.int (-1) t) rfl (wpAny_pure ?_)))))))
  refine wpAny_bind (zbZ (.int (-1) t) ?_)
  show wpAny _ _ (if ((-1:Int)==0)=true then _ else _) _ _ s
  rw [if_neg (by decide)]
  refine wpAny_bind (slicePart_none (wpAny_bind (slicePart_none (wpAny_bind (wpAny_pure ?_)))))
  show wpAny _ _ (pure ((n:Int)-1,(-1:Int),Builtin.Slice.slicePlaces ((n:Int)-1) (-1) (-1))) _ _ s
  have e:Builtin.Slice.slicePlaces ((n:Int)-1) (-1) (-1)=n:=by
    unfold Builtin.Slice.slicePlaces
    rw [if_neg (by decide)]
    by_cases c:n=0
    · subst c;rfl
    · rw [if_pos (by lia),show (-(-1:Int))=1 from rfl,Int.ediv_one]
      lia
  rw [e]
  exact wpAny_pure h
theorem zd7 {α β:Type} {f g:α→Option β}:∀(l:List α),(∀m∈l,f m=g m)→l.filterMap f=l.filterMap g
  | [],_=>rfl
  | x::l,h=>by
    rw [List.filterMap_cons,List.filterMap_cons,h x List.mem_cons_self,zd7 l fun m hm=>h m (List.mem_cons_of_mem _ hm)]
theorem zfP (xs:Array Value):((List.range xs.size).filterMap fun (m:Nat)=>xs[(((xs.size:Int)-1)+(m:Int)*(-1)).toNat]?).toArray=xs.toList.reverse.toArray:=by
  congr 1
  have h:∀m∈List.range xs.size,xs[(((xs.size:Int)-1)+(m:Int)*(-1)).toNat]?=xs.toList.reverse[m]?:=fun m hm=>by
    have hm:=List.mem_range.mp hm
    rw [List.getElem?_reverse (by simpa using hm),Array.length_toList,Array.getElem?_toList]
    congr 1
    lia
  rw [zd7 _ h]
  have:=PySem.List.filterMap_getElem?_range_length xs.toList.reverse
  rwa [List.length_reverse,Array.length_toList] at this
theorem getItem_tuple_rev {Q:Value→Shared→Prop} (ht:IsTup s.heap t items) (hs:s.heap.IsSliceOf sl .none .none (.int (-1) tk))
    (h:Q (.ref s.heap.objs.size) { s with heap:=s.heap.push { cls:=.type "tuple",data:=.seq items.toList.reverse.toArray } })
    (hsz:items.size≤sizeLine):wpAny (model prog w) A (getItem (.ref t) (.ref sl)) Q E s:=by
  have htake:sizeOk (.seq items.toList.reverse.toArray):=by
    show items.toList.reverse.toArray.size≤sizeLine
    rw [List.size_toArray,List.length_reverse,Array.length_toList];exact hsz
  obtain ⟨os,hos,hcs,hds⟩:=id hs
  have hTs:s.TypeIs (.ref sl) "slice":=⟨os,hos,hcs⟩
  unfold getItem
  try with_reducible refine wpAny_holding ?_
  first|refine wpAny_bind (wpAny_pure ?_)|skip
  refine wpAny_bind (wpAny_sequenceKey ht.typeIs (by decide) ?_)
  refine wpAny_bind (wpAny_callSpecial?_slot (name:=Str.ofString "__getitem__") ht.typeIs PyProof.Rows.slot_tuple_getitem
    (wpAny_call_entry PyProof.Rows.slot_tuple_getitem ht.typeIs entry_tuple_getitem ?_ (args_tuple_getitem _ _)))
  show wpAny _ _ (Builtin.Tuple.tupleItemsOf (.ref t) >>= _) _ _ s
  refine wpAny_bind (tupleItemsOf_ ht ?_)
  refine wpAny_bind (wpAny_typeOf hTs ?_)
  rw [if_pos (by decide)]
  refine wpAny_bind (zb9 hs ?_)
  show wpAny _ _ (if ((((items.size:Int)-1)==0&&(-1:Int)==1&&items.size==items.size)=true) then _ else _) _ _ s
  rw [if_neg (by simp),zfP]
  first
    | exact wpAny_bind (m:=Builtin.Tuple.tupleExact _) (wpAny_newObj_type (wpAny_pure ⟨_,rfl,wpAny_pure h⟩) htake)
    | exact wpAny_bind (m:=Builtin.Tuple.tupleExact _) (wpAny_newObj_type (wpAny_bind (wpAny_pure (wpAny_pure ⟨_,rfl,wpAny_pure h⟩))) htake)
    | exact wpAny_bind (wpAny_bind (m:=Builtin.Tuple.tupleExact _) (wpAny_newObj_type (wpAny_pure (wpAny_pure ⟨_,rfl,wpAny_pure h⟩)) htake))
    | exact wpAny_bind (wpAny_bind (m:=Builtin.Tuple.tupleExact _) (wpAny_newObj_type (wpAny_pure ⟨_,rfl,wpAny_pure h⟩) htake))
end
end HT
namespace L2
open PySem PyProof.Rows
section
variable {X:Cx}
noncomputable def zhk (K:PySem.W.Frag) (te:TE):TE:=fun σ H Q=>te σ H fun x H1=>Ex2 fun a xs=>x = .ref a∧SqT K H1 a xs∧∀p,H1 p=none→Q (.ref p) (upd H1 p (.tup xs.reverse))
theorem zeD {e:Expr} {te:TE} {p0 p1 p2 pos:Pos} {j} (he:PE X e te):PE X (.Subscript e (.Slice none none (some (.UnaryOp .USub (.Constant (.int 1) j p0) p1)) p2) pos) (zhk X.K te):=by
  intro pins s σ H Q I h
  refine Subscript_ (thn (he pins s σ H _ I h) fun v s1 hq=>?_)
  obtain ⟨x,H1,I1,r1,q1⟩:=hq
  obtain ⟨a,xs,rfl,hx,q⟩:=q1
  cases r1
  refine wpAny_Slice ?_
  rw [evalPart_none]
  refine wpAny_pure ?_
  refine wpAny_pure ?_
  rw [evalPart_some]
  refine thn ((zch zbw (zaa (X:=X))) pins s1 σ H1 (fun v H'=>v = .int (-1)∧H'=H1) I1 ⟨1,rfl,rfl,rfl⟩) fun st s2 hq=>?_
  obtain ⟨v,H2,I2,r2,e1,e2⟩:=hq
  subst e1 e2
  obtain ⟨t,rfl⟩:=r2
  have I4:Inv X pins σ H2 { s2 with heap:=s2.heap.push { cls:=.type "slice",data:=.fields #[.none,.none,.int (-1) t] } }:=I2.kept (t':=s2.toks) fun b ob q=>Heap.get?_push_of_some _ q
  obtain ⟨its,r,ht,hz⟩:=I4.tuple hx
  have hlen:=r.length
  show wpAny (model X.prog X.w) X.A (subscriptTail e _ (.ref a) (.ref s2.heap.objs.size)) (EP X pins σ Q) X.xe { s2 with heap:=s2.heap.push { cls:=.type "slice",data:=.fields #[.none,.none,.int (-1) t] } }
  refine tail_any (ops:=[.ref a,.ref s2.heap.objs.size]) ht.typeIs PyProof.Rows.slot_tuple_getitem.lookup ?_ (by with_unfolding_all rfl)
  refine HT.getItem_tuple_rev ht (Heap.IsSliceOf.new ..) ?_ (by rw [List.size_toArray];lia)
  refine ⟨.ref _,_,I4.laid (t':=s2.toks) (o:=.tup xs.reverse) (fun b ob q=>Heap.get?_push_of_some _ q) (Nat.le_refl _) ?_,rfl,q _ (I4.hok.fresh (Nat.le_refl _))⟩
  exact ⟨by rw [List.length_reverse];exact hz,its.reverse,r.reverse,IsTup.new _ _⟩
end
end L2
end
section
namespace HT
open PySem PyProof.Rows
section
variable {prog:Program} {w:World} {A:Around} {E:Value→Shared→Prop} {s:Shared}
theorem getItem_tuple_whole {lo hi:Option Int} {Q:Value→Shared→Prop} (ht:IsTup s.heap t items) (hs:s.heap.IsSliceOf sl vl vu .none) (pl:IsPart vl lo) (pu:IsPart vu hi)
    (hw:sIx items.size 0 lo=0∧sIx items.size items.size hi=items.size) (h:Q (.ref t) s):wpAny (model prog w) A (getItem (.ref t) (.ref sl)) Q E s:=by
  obtain ⟨os,hos,hcs,hds⟩:=id hs
  have hTs:s.TypeIs (.ref sl) "slice":=⟨os,hos,hcs⟩
  unfold getItem
  try with_reducible refine wpAny_holding ?_
  first|refine wpAny_bind (wpAny_pure ?_)|skip
  refine wpAny_bind (wpAny_sequenceKey ht.typeIs (by decide) ?_)
  refine wpAny_bind (wpAny_callSpecial?_slot (name:=Str.ofString "__getitem__") ht.typeIs PyProof.Rows.slot_tuple_getitem
    (wpAny_call_entry PyProof.Rows.slot_tuple_getitem ht.typeIs entry_tuple_getitem ?_ (args_tuple_getitem _ _)))
  show wpAny _ _ (Builtin.Tuple.tupleItemsOf (.ref t) >>= _) _ _ s
  refine wpAny_bind (tupleItemsOf_ ht ?_)
  refine wpAny_bind (wpAny_typeOf hTs ?_)
  rw [if_pos (by decide)]
  refine wpAny_bind (ybj hs pl pu ?_)
  have hyes:(((sIx items.size 0 lo:Nat):Int)==0&&(1:Int)==1&&(sIx items.size items.size hi-sIx items.size 0 lo)==items.size)=true:=by
    rw [hw.1,hw.2,Nat.sub_zero];simp
  show wpAny _ _ (if (((sIx items.size 0 lo:Nat):Int)==0&&(1:Int)==1&&(sIx items.size items.size hi-sIx items.size 0 lo)==items.size)=true then _ else _) _ _ s
  rw [if_pos hyes]
  unfold Builtin.Tuple.tupleIsExact
  refine wpAny_bind (wpAny_bind (wpAny_typeOf ht.typeIs (wpAny_pure ?_)))
  rw [if_pos (by decide)]
  first
    | exact wpAny_bind (wpAny_rule (wpAny_pure ⟨_,rfl,wpAny_pure h⟩))
    | exact wpAny_bind (wpAny_bind (wpAny_rule (wpAny_pure (wpAny_pure ⟨_,rfl,wpAny_pure h⟩))))
    | exact wpAny_bind (wpAny_rule (wpAny_bind (wpAny_pure (wpAny_pure ⟨_,rfl,wpAny_pure h⟩))))
    | (refine wpAny_bind (wpAny_rule ?_);trace_state;exact wpAny_pure h)
end
end HT
namespace L2
open PySem PyProof.Rows
section
variable {X:Cx}
noncomputable def rSlA (K:PySem.W.Frag):V→Option Int→Option Int→Hp→VK→Prop:=fun x lo hi H Q=>Ex2 fun a xs=>x = .ref a∧SqT K H a xs∧(cutV xs lo hi=xs→Q (.ref a) H)∧∀p,H p=none→Q (.ref p) (upd H p (.tup (cutV xs lo hi)))
theorem yaq:SlR X (rSlA X.K):=by
  intro pins s σ H x v vl vu lo hi sl Q I rx hs pl pu h
  obtain ⟨a,xs,rfl,hx,q1,q⟩:=h
  by_cases hw:HT.sIx xs.length 0 lo=0∧HT.sIx xs.length xs.length hi=xs.length
  · cases rx
    obtain ⟨its,r,ht,hz⟩:=I.tuple hx
    have hlen:its.toArray.size=xs.length:=by rw [List.size_toArray];exact r.length.symm
    refine ⟨"tuple",_,PyProof.Rows.slot_tuple_getitem.lookup,ht.typeIs,?_⟩
    refine HT.getItem_tuple_whole ht hs pl pu (by rw [hlen];exact hw) ?_
    exact ⟨.ref a,H,I,rfl,q1 (by unfold cutV;rw [hw.1,hw.2,Nat.sub_zero,List.drop_zero,List.take_length])⟩
  · exact zgL pins s σ H _ v vl vu lo hi sl Q I rx hs pl pu ⟨a,xs,rfl,hx,hw,q⟩
end
end L2
end
section
namespace L2
open PySem PySem.Spec PyProof.Rows
end L2
end
section
namespace L2
open PySem PySem.Spec PyProof.Rows
section
variable {X:Cx}
theorem zbt:∀n:Nat,n<100→(n:Int).natAbs.log2<1920:=fun n h=>by
  rw [Int.natAbs_natCast]
  rcases Nat.eq_zero_or_pos n with e|e
  · rw [e];decide
  · exact Nat.lt_of_lt_of_le ((Nat.log2_lt (k:=7) (by lia)).mpr (by lia)) (by decide)
end
end L2
namespace L2
open PySem PySem.Spec PyProof.Rows
end L2
end
section
namespace L2
open PySem PySem.Spec PyProof.Rows
noncomputable def RdN (K:PySem.W.Frag) (H:Hp):Nat→V→PyData→Prop
  | 0,_,_=>False
  | n+1,v,d=>(∃i:Int,v = .int i∧d = .int i)∨Ex3 fun (a:Addr) (xs:List V) (ds:List PyData)=>v = .ref a∧d = .tuple ds∧SqT K H a xs∧xs.length=ds.length∧∀(i:Nat) x e,xs[i]?=some x→ds[i]?=some e→RdN K H n x e
theorem ycl:∀ {us:List Value} {ds:List PyData},us.length=ds.length→(∀(i:Nat) u e,us[i]?=some u→ds[i]?=some e→Reads h u e [])→ReadsAll h us ds []
  | [],[],_,_=>.nil
  | [],_::_,hl,_=>by cases hl
  | _::_,[],hl,_=>by cases hl
  | u::us,d::ds,hl,hr=>by
    have h1:=hr 0 u d rfl rfl
    have h2:=ycl (us:=us) (ds:=ds) (by simpa using hl) fun i u' e hu he=>hr (i+1) u' e hu he
    exact .cons (as:=[]) (bs:=[]) h1 h2
section
variable {X:Cx}
theorem ycV (I:Inv X pins σ H s):∀(n:Nat) (x:V) (d:PyData) (u:Value),RdN X.K H n x d→RelV x u→Reads s.heap u d []
  | 0,_,_,_,h,_=>h.elim
  | n+1,x,d,u,h,r=>by
    rcases h with ⟨i,rfl,rfl⟩ | ⟨a,xs,ds,rfl,rfl,ha,hl,hx⟩
    · obtain ⟨t,rfl⟩:=r
      exact .int i t
    · cases r
      obtain ⟨us,r1,⟨o,ho,hc,k,hd⟩,z1⟩:=I.tuple ha
      have l1:=r1.length
      refine .tuple ho hc hd (ycl (by simp;lia) fun i u e hu he=>?_)
      have hi:=(List.getElem?_eq_some_iff.mp hu).1
      obtain ⟨x1,e1,q1⟩:=zc9 r1 (i:=i) (by simpa using hi)
      have eu:us.toArray[i]'(by simpa using hi)=u:=by
        have:=(List.getElem?_eq_some_iff.mp hu).2
        simpa using this
      rw [eu] at q1
      exact ycV I n x1 e u (hx i x1 e e1 he) q1
end
noncomputable def whD (p m t few root:Nat) (marks:List Nat):PyData:=.tuple [.tuple ([p,m,t].map fun n:Nat=>PyData.int (n:Int)),.int (few:Int),.int (root:Int),.tuple (marks.map fun n:Nat=>PyData.int (n:Int))]
structure DOk (d:PyData) (w:Nat):Prop where
  sh:d.showable=true
  nd:d.hasDict=false
  dp:d.depth≤40
  sl:d.leavesShort 8=true
  we:d.weight≤w
theorem ydL {ns:List Nat} (h:∀n∈ns,n<100):PyData.showableAll (ns.map fun n:Nat=>PyData.int (n:Int))=true∧PyData.hasDictAll (ns.map fun n:Nat=>PyData.int (n:Int))=false∧PyData.depthAll (ns.map fun n:Nat=>PyData.int (n:Int))=0∧PyData.leavesShortAll 8 (ns.map fun n:Nat=>PyData.int (n:Int))=true∧PyData.weightAll (ns.map fun n:Nat=>PyData.int (n:Int))≤11*ns.length:=by
  induction ns with
  | nil=>exact ⟨rfl,rfl,rfl,rfl,Nat.le_refl _⟩
  | cons n ns ih =>
    obtain ⟨i1,i2,i3,i4,i5⟩:=ih fun y hy=>h y (List.mem_cons_of_mem _ hy)
    have hn:=h n List.mem_cons_self
    obtain ⟨k1,k2⟩:=zbg n hn
    rw [List.map_cons]
    refine ⟨?_,?_,?_,?_,?_⟩
    · show (decide ((n:Int).natAbs.log2<1920)&&PyData.showableAll _)=true
      rw [i1,decide_eq_true (zbt n hn)];rfl
    · show (false||PyData.hasDictAll _)=false
      rw [i2];rfl
    · show max 0 (PyData.depthAll _)=0
      rw [i3];rfl
    · show (PyData.leavesShort 8 (.int (n:Int))&&PyData.leavesShortAll 8 _)=true
      rw [k1,i4];rfl
    · show PyData.weight (.int (n:Int))+1+PyData.weightAll _≤11*(ns.length+1)
      lia
theorem yg6 {p m t few root:Nat} {marks:List Nat} (h:∀n∈[p,m,t,few,root],n<100) (hm:∀n∈marks,n<100) (hl:marks.length≤100):DOk (whD p m t few root marks) 2000:=by
  obtain ⟨a1,a2,a3,a4,a5⟩:=ydL (ns:=[p,m,t]) fun n hn=>h n (by simp at hn ⊢;lia)
  obtain ⟨b1,b2,b3,b4,b5⟩:=ydL hm
  have hf:=h few (by simp)
  have hr:=h root (by simp)
  obtain ⟨f1,f2⟩:=zbg few hf
  obtain ⟨r1,r2⟩:=zbg root hr
  refine ⟨?_,?_,?_,?_,?_⟩
  · show (PyData.showableAll _&&(decide ((few:Int).natAbs.log2<1920)&&(decide ((root:Int).natAbs.log2<1920)&&(PyData.showableAll _&&true))))=true
    rw [a1,b1,decide_eq_true (zbt few hf),decide_eq_true (zbt root hr)];rfl
  · unfold whD
    simp only [PyData.hasDict,PyData.hasDictAll,a2,b2,Bool.or_false]
  · show max (PyData.depthAll _+1) (max 0 (max 0 (max (PyData.depthAll _+1) 0)))+1≤40
    rw [a3,b3];decide
  · show (PyData.leavesShortAll 8 _&&(PyData.leavesShort 8 (.int (few:Int))&&(PyData.leavesShort 8 (.int (root:Int))&&(PyData.leavesShortAll 8 _&&true))))=true
    rw [a4,b4,f1,r1];rfl
  · show PyData.weightAll _+1+(PyData.weight (.int (few:Int))+1+(PyData.weight (.int (root:Int))+1+(PyData.weightAll _+1+0)))≤2000
    simp only [List.length_cons,List.length_nil] at a5
    lia
theorem yc2 {K:PySem.W.Frag} {H:Hp} {a:Addr} {ns:List Nat} {k:Nat} (h:SqT K H a (ns.map fun n:Nat=>V.int (n:Int))):RdN K H (k+2) (.ref a) (.tuple (ns.map fun n:Nat=>PyData.int (n:Int))):=by
  refine .inr ⟨a,_,_,rfl,rfl,h,by simp,fun i x e hx he=>.inl ?_⟩
  rw [List.getElem?_map] at hx he
  cases q:ns[i]? with
  | none=>rw [q] at hx;cases hx
  | some n=>rw [q] at hx he;cases hx;cases he;exact ⟨_,rfl,rfl⟩
theorem yfx {K:PySem.W.Frag} {p m t few root:Nat} {marks:List Nat} (hw:SqT K H wa [.ref fa,.int (few:Int),.int (root:Int),.ref mk]) (hf:SqT K H fa ([p,m,t].map fun n:Nat=>V.int (n:Int))) (hm:SqT K H mk (marks.map fun n:Nat=>V.int (n:Int))):RdN K H 10 (.ref wa) (whD p m t few root marks):=by
  refine .inr ⟨wa,_,_,rfl,rfl,hw,rfl,fun i x e hx he=>?_⟩
  have hi:i=0∨i=1∨i=2∨i=3:=by
    have:=(List.getElem?_eq_some_iff.mp hx).1
    simp at this;lia
  rcases hi with rfl|rfl|rfl|rfl
  · cases hx;cases he;exact yc2 (k:=7) hf
  · cases hx;cases he;exact .inl ⟨_,rfl,rfl⟩
  · cases hx;cases he;exact .inl ⟨_,rfl,rfl⟩
  · cases hx;cases he;exact yc2 (k:=7) hm
end L2
end
section
namespace L2
open PySem PySem.Spec PyProof.Rows
end L2
end
section
namespace L2
open PySem PySem.Spec PyProof.Rows
section
variable {X:Cx}
noncomputable def rNeL (K:PySem.W.Frag):R2:=fun x y H Q=>Ex4 fun (a b:Addr) (xs ys:List Int)=>x = .ref a∧y = .ref b∧SqL K H a (xs.map V.int)∧SqL K H b (ys.map V.int)∧xs.length=ys.length∧Q (.bl (!decide (xs=ys))) H
theorem zgS (hu:X.A.units<cLine):OpR X (compareOp .NotEq) (rNeL X.K):=by
  intro pins s σ H x y v u Q I rx ry h
  obtain ⟨a,b,xs,ys,rfl,rfl,ha,hb,hl,q⟩:=h
  cases rx;cases ry
  obtain ⟨us,r1,p1,z1⟩:=I.list ha
  obtain ⟨vs,r2,p2,z2⟩:=I.list hb
  have l1:=r1.length
  have l2:=r2.length
  rw [List.length_map] at l1 l2
  refine SeqAt.RcNeAt.lists (e:=fun j=>xs.getD j 0==ys.getD j 0) p1.isList p2.isList (by rw [List.size_toArray,List.size_toArray];lia) hu (zeZ r1 r2) _ _ _ _ ?_
  have e:=yft (xs:=xs) (ys:=ys)
  rw [←hl,Nat.min_self,show (xs.length==xs.length)=true from beq_self_eq_true _,Bool.and_true] at e
  rw [List.size_toArray,←l1,e]
  exact ⟨.bl _,H,I,rfl,q⟩
end
end L2
end
section
namespace L2
open PySem PySem.Spec PyProof.Rows
end L2
end
section
set_option autoImplicit false
namespace L2
inductive An3 (p0 p1 p2:Prop):Prop|mk (_:p0) (_:p1) (_:p2):An3 p0 p1 p2
inductive An4 (p0 p1 p2 p3:Prop):Prop|mk (_:p0) (_:p1) (_:p2) (_:p3):An4 p0 p1 p2 p3
inductive An5 (p0 p1 p2 p3 p4:Prop):Prop|mk (_:p0) (_:p1) (_:p2) (_:p3) (_:p4):An5 p0 p1 p2 p3 p4
inductive An6 (p0 p1 p2 p3 p4 p5:Prop):Prop|mk (_:p0) (_:p1) (_:p2) (_:p3) (_:p4) (_:p5):An6 p0 p1 p2 p3 p4 p5
inductive An7 (p0 p1 p2 p3 p4 p5 p6:Prop):Prop|mk (_:p0) (_:p1) (_:p2) (_:p3) (_:p4) (_:p5) (_:p6):An7 p0 p1 p2 p3 p4 p5 p6
end L2
namespace Dg
def dg (p i x:Nat):Nat:=x/p^i%p
theorem zbc (p x:Nat):dg p 0 x=x%p:=by simp [dg]
theorem zbo (p i x:Nat):dg p (i+1) x=dg p i (x/p):=by
  unfold dg;rw [Nat.pow_succ,Nat.mul_comm,Nat.div_div_eq_div_mul]
theorem ygX {p:Nat} (hp:2≤p) (i x:Nat):dg p i x<p:=Nat.mod_lt _ (by lia)
theorem zaz {p:Nat} (hp:2≤p) {i k x:Nat} (h:x<p^k) (hk:k≤i):dg p i x=0:=by
  unfold dg
  have:x<p^i:=Nat.lt_of_lt_of_le h (Nat.pow_le_pow_right (by lia) hk)
  rw [Nat.div_eq_of_lt this,Nat.zero_mod]
theorem ybk (p i:Nat):dg p i 0=0:=by simp [dg]
theorem ext {p:Nat} (hp:2≤p):∀ {a b:Nat},(∀i,dg p i a=dg p i b)→a=b:=by
  intro a
  induction a using Nat.strongRecOn with
  | _ a ih =>
    intro b h
    have h0:=h 0
    rw [zbc,zbc] at h0
    by_cases ha:a=0
    · subst ha
      have key:∀n,∀b,b≤n→(∀i,dg p i b=0)→b=0:=by
        intro n
        induction n with
        | zero=>intro b hb _;lia
        | succ n ihn =>
          intro b hb hz
          by_cases hb0:b=0
          · exact hb0
          · have hlt:b/p<b:=Nat.div_lt_self (by lia) (by lia)
            have hd:b/p=0:=ihn (b/p) (by lia) fun i=>by rw [←zbo];exact hz (i+1)
            have hm:b%p=0:=by rw [←zbc];exact hz 0
            have:=Nat.div_add_mod b p
            rw [hd,hm] at this
            simpa using this.symm
      exact (key b b (Nat.le_refl _) fun i=>by rw [←h i,ybk]).symm
    · have hlt:a/p<a:=Nat.div_lt_self (by lia) (by lia)
      have hd:a/p=b/p:=ih (a/p) hlt fun i=>by rw [←zbo,←zbo];exact h (i+1)
      have e1:=Nat.div_add_mod a p
      have e2:=Nat.div_add_mod b p
      rw [←e1,←e2,hd,h0]
theorem zbX {p:Nat} (hp:2≤p) {j r:Nat} (h:∀i,j≤i→dg p i r=0):r<p^j:=by
  have hpos:0<p^j:=Nat.pow_pos (by lia)
  have hq:r/p^j=0:=by
    refine ext hp fun i=>?_
    rw [ybk]
    have:=h (j+i) (by lia)
    unfold dg at this ⊢
    rw [Nat.pow_add,←Nat.div_div_eq_div_mul] at this
    exact this
  have:=Nat.div_add_mod r (p^j)
  rw [hq,Nat.mul_zero,Nat.zero_add] at this
  rw [←this]
  exact Nat.mod_lt _ hpos
theorem yf5 {p:Nat} (hp:2≤p) {k t d:Nat} (ht:t<p^k) (hd:d<p) (i:Nat):dg p i (t+d*p^k)=if i=k then d else dg p i t:=by
  have hpos:0<p^k:=Nat.pow_pos (by lia)
  unfold dg
  by_cases h1:i<k
  · rw [if_neg (by lia)]
    obtain ⟨c,rfl⟩:∃c,k=i+(c+1):=⟨k-i-1,by lia⟩
    have e:d*p^(i+(c+1))=p^i*(d*p^c*p):=by rw [Nat.pow_add,Nat.pow_succ];ac_rfl
    rw [e,Nat.add_mul_div_left _ _ (Nat.pow_pos (by lia)),Nat.add_mul_mod_self_right]
  · by_cases h2:i=k
    · subst h2
      rw [if_pos rfl,Nat.add_mul_div_right _ _ hpos,Nat.div_eq_of_lt ht,Nat.zero_add,Nat.mod_eq_of_lt hd]
    · rw [if_neg h2]
      have hlt:t+d*p^k<p^i:=by
        have:t+d*p^k<p^(k+1):=by
          rw [Nat.pow_succ]
          calc t+d*p^k<p^k+d*p^k:=by lia
            _=(d+1)*p^k:=by rw [Nat.add_mul];lia
            _≤p*p^k:=Nat.mul_le_mul_right _ hd
            _=p^k*p:=Nat.mul_comm _ _
        exact Nat.lt_of_lt_of_le this (Nat.pow_le_pow_right (by lia) (by lia))
      rw [Nat.div_eq_of_lt hlt,Nat.div_eq_of_lt (Nat.lt_of_lt_of_le ht (Nat.pow_le_pow_right (by lia) (by lia)))]
theorem yf2 {p:Nat} {k t d:Nat} (ht:t<p^k) (hd:d<p):t+d*p^k<p^(k+1):=by
  rw [Nat.pow_succ]
  calc t+d*p^k<p^k+d*p^k:=by lia
    _=(d+1)*p^k:=by rw [Nat.add_mul];lia
    _≤p*p^k:=Nat.mul_le_mul_right _ hd
    _=p^k*p:=Nat.mul_comm _ _
def yaz (f:Nat→Nat):Nat→Nat:=fun i=>if i=0 then 0 else f (i-1)
def zaw (m:Nat) (t f:Nat→Nat):Nat→Nat:=fun i=>if i<m then yaz f i+f (m-1)*t i else 0
noncomputable def tn (m:Nat) (t:Nat→Nat):Nat→(Nat→Nat)→(Nat→Nat)→Nat→Nat
  | 0,_,_=>fun _=>0
  | k+1,f,y=>fun i=>f 0*y i+tn m t k (fun j=>f (j+1)) (zaw m t y) i
def zbh (m:Nat) (t:Nat→Nat) (q:Nat) (f:Nat→Nat):Nat→Nat:=fun i=>f i+if q-m≤i∧i<q then f q*t (i-(q-m)) else 0
def redF (m:Nat) (t:Nat→Nat):Nat→(Nat→Nat)→(Nat→Nat)
  | 0,f=>f
  | j+1,f=>redF m t j (zbh m t (m+j) f)
def yc6:Nat→(Nat→Nat)→(Nat→Nat)→Nat→Nat
  | 0,_,_=>fun _=>0
  | k+1,f,y=>fun i=>f 0*y i+yaz (yc6 k (fun j=>f (j+1)) y) i
section
variable {m:Nat} {t:Nat→Nat}
theorem yeT (q c:Nat) (f g:Nat→Nat):zbh m t q (fun i=>c*f i+g i)=fun i=>c*zbh m t q f i+zbh m t q g i:=by
  funext i
  unfold zbh
  split
  · dsimp only;rw [Nat.mul_add,Nat.add_mul];ac_rfl
  · simp
theorem zd9 (c:Nat):∀(j:Nat) (f g:Nat→Nat),redF m t j (fun i=>c*f i+g i)=fun i=>c*redF m t j f i+redF m t j g i
  | 0,f,g=>rfl
  | j+1,f,g=>by
    show redF m t j (zbh m t (m+j) fun i=>c*f i+g i)=_
    rw [yeT,zd9 c j]
    rfl
theorem ydR {q:Nat} (hq:m≤q) (f:Nat→Nat):zbh m t (q+1) (yaz f)=yaz (zbh m t q f):=by
  funext i
  unfold zbh yaz
  by_cases h0:i=0
  · subst h0
    rw [if_pos rfl,if_pos rfl]
    rw [if_neg (by lia)]
  · rw [if_neg h0,if_neg h0,if_neg (show ¬ q+1=0 by lia)]
    congr 1
    by_cases h1:q-m≤i-1∧i-1<q
    · rw [if_pos h1,if_pos (by lia),Nat.add_sub_cancel]
      congr 2
      lia
    · rw [if_neg h1,if_neg (by lia)]
theorem ycN (hm:1≤m):∀(j:Nat) (f:Nat→Nat) (i:Nat),i<m→redF m t (j+1) (yaz f) i=zaw m t (redF m t j f) i
  | 0,f,i,hi=>by
    show zbh m t (m+0) (yaz f) i=zaw m t f i
    unfold zbh zaw
    rw [if_pos hi,if_pos (by lia)]
    congr 1
    show yaz f (m+0)*t (i-(m+0-m))=_
    unfold yaz
    rw [if_neg (by lia)]
    simp
  | j+1,f,i,hi=>by
    show redF m t (j+1) (zbh m t (m+(j+1)) (yaz f)) i=zaw m t (redF m t j (zbh m t (m+j) f)) i
    rw [←ycN hm j (zbh m t (m+j) f) i hi,←ydR (by lia)]
    rfl
theorem zek:∀(j:Nat) (f:Nat→Nat),(∀q,m≤q→f q=0)→redF m t j f=f
  | 0,f,_=>rfl
  | j+1,f,h=>by
    have e:zbh m t (m+j) f=f:=by
      funext i
      unfold zbh
      rw [h (m+j) (by lia)]
      simp
    show redF m t j (zbh m t (m+j) f)=f
    rw [e]
    exact zek j f h
theorem ydu (c:Nat) (f g:Nat→Nat):zaw m t (fun i=>c*f i+g i)=fun i=>c*zaw m t f i+zaw m t g i:=by
  funext i
  unfold zaw yaz
  split
  · split
    · simp [Nat.mul_add,Nat.add_mul,Nat.mul_assoc]
    · dsimp only;rw [Nat.mul_add,Nat.add_mul];ac_rfl
  · simp
theorem zd4:∀(k:Nat) (f y:Nat→Nat),zaw m t (tn m t k f y)=tn m t k f (zaw m t y)
  | 0,f,y=>by
    funext i
    show zaw m t (fun _=>0) i=0
    unfold zaw yaz
    split
    · split <;> simp
    · rfl
  | k+1,f,y=>by
    show zaw m t (fun i=>f 0*y i+tn m t k (fun j=>f (j+1)) (zaw m t y) i)=_
    rw [ydu,zd4 k]
    rfl
theorem yd4 (hm:1≤m):∀(k:Nat) (f y:Nat→Nat),(∀q,m≤q→y q=0)→∀i,i<m→redF m t k (yc6 (k+1) f y) i=tn m t (k+1) f y i
  | 0,f,y,hy,i,hi=>by
    show f 0*y i+yaz (fun _=>0) i=f 0*y i+0
    unfold yaz
    split <;> rfl
  | k+1,f,y,hy,i,hi=>by
    show redF m t (k+1) (fun i=>f 0*y i+yaz (yc6 (k+1) (fun j=>f (j+1)) y) i) i=f 0*y i+tn m t (k+1) (fun j=>f (j+1)) (zaw m t y) i
    rw [zd9]
    show f 0*redF m t (k+1) y i+redF m t (k+1) (yaz (yc6 (k+1) (fun j=>f (j+1)) y)) i=_
    rw [zek (k+1) y hy,ycN hm k _ i hi]
    congr 1
    have e:∀i,i<m→redF m t k (yc6 (k+1) (fun j=>f (j+1)) y) i=tn m t (k+1) (fun j=>f (j+1)) y i:=fun i hi=>yd4 hm k _ y hy i hi
    rw [←zd4]
    unfold zaw yaz
    rw [if_pos hi,if_pos hi,e (m-1) (by lia)]
    by_cases h0:i=0
    · rw [if_pos h0,if_pos h0]
    · rw [if_neg h0,if_neg h0,e (i-1) (by lia)]
end
theorem ycu {m:Nat} {t:Nat→Nat}:∀(k:Nat) (f y:Nat→Nat) (i:Nat),(∀j,f j=0)→tn m t k f y i=0
  | 0,_,_,_,_=>rfl
  | k+1,f,y,i,h=>by
    show f 0*y i+tn m t k (fun j=>f (j+1)) (zaw m t y) i=0
    rw [h 0,ycu k _ _ i fun j=>h (j+1)]
    simp
theorem ybb {p a b c d:Nat} (h1:a%p=c%p) (h2:b%p=d%p):(a+b)%p=(c+d)%p:=by rw [Nat.add_mod,h1,h2,←Nat.add_mod]
theorem ydc {p a b c d:Nat} (h1:a%p=c%p) (h2:b%p=d%p):(a*b)%p=(c*d)%p:=by rw [Nat.mul_mod,h1,h2,←Nat.mul_mod]
theorem ydV {p m:Nat} (hm:1≤m) {t y y':Nat→Nat} (h:∀i,i<m→y i%p=y' i%p) (i:Nat):zaw m t y i%p=zaw m t y' i%p:=by
  unfold zaw yaz
  split
  · refine ybb ?_ (ydc (h (m-1) (by lia)) rfl)
    split
    · rfl
    · exact h (i-1) (by lia)
  · rfl
theorem zbb {p m:Nat} (hm:1≤m) {t:Nat→Nat}:∀(k:Nat) (f y y':Nat→Nat),(∀i,i<m→y i%p=y' i%p)→∀i,i<m→tn m t k f y i%p=tn m t k f y' i%p
  | 0,_,_,_,_,_,_=>rfl
  | k+1,f,y,y',h,i,hi=>ybb (ydc rfl (h i hi)) (zbb hm k _ _ _ (fun j _=>ydV hm h j) i hi)
theorem zcm (p x:Nat):(fun j=>dg p (j+1) x)=fun j=>dg p j (x/p):=by funext j;exact zbo p j x
theorem yf4 (p i x:Nat):dg p i x%p=dg p i x:=by unfold dg;exact Nat.mod_mod _ _
theorem ygR {p:Nat} (hp:2≤p) (k i x:Nat):dg p i (x%p^k)=if i<k then dg p i x else 0:=by
  by_cases h:i<k
  · rw [if_pos h]
    unfold dg
    obtain ⟨c,rfl⟩:∃c,k=i+(c+1):=⟨k-i-1,by lia⟩
    rw [Nat.pow_add,Nat.mod_mul_right_div_self,Nat.pow_succ,Nat.mul_comm (p^c) p,Nat.mod_mul_right_mod]
  · rw [if_neg h]
    exact zaz hp (Nat.mod_lt _ (Nat.pow_pos (by lia))) (by lia)
theorem zhj {p:Nat} (hp:2≤p) (i x:Nat):dg p i (x*p)=if i=0 then 0 else dg p (i-1) x:=by
  cases i with
  | zero=>rw [zbc,if_pos rfl,Nat.mul_mod_left]
  | succ i=>rw [if_neg (by lia),zbo,Nat.mul_div_cancel _ (by lia)];rfl
theorem yge {p m x:Nat} (hp:2≤p) (hm:1≤m) (h:x<p^m):x/p^(m-1)=dg p (m-1) x:=by
  unfold dg
  rw [Nat.mod_eq_of_lt]
  obtain ⟨c,rfl⟩:∃c,m=c+1:=⟨m-1,by lia⟩
  exact Nat.div_lt_of_lt_mul (by simpa [Nat.pow_succ] using h)
end Dg
end
section
namespace Dg
def ofF (p:Nat):Nat→(Nat→Nat)→Nat
  | 0,_=>0
  | m+1,f=>f 0%p+p*ofF p m (fun j=>f (j+1))
theorem zfZ {p:Nat} (hp:2≤p):∀(m:Nat) (f:Nat→Nat),ofF p m f<p^m
  | 0,f=>by simp [ofF]
  | m+1,f=>by
    have h:=zfZ hp m fun j=>f (j+1)
    have h1:f 0%p<p:=Nat.mod_lt _ (by lia)
    show f 0%p+p*ofF p m (fun j=>f (j+1))<p^(m+1)
    calc f 0%p+p*ofF p m (fun j=>f (j+1))<p+p*ofF p m (fun j=>f (j+1)):=by lia
      _=p*(ofF p m (fun j=>f (j+1))+1):=by rw [Nat.mul_add,Nat.mul_one,Nat.add_comm]
      _≤p*p^m:=Nat.mul_le_mul_left _ h
      _=p^(m+1):=by rw [Nat.pow_succ,Nat.mul_comm]
theorem zeY {p:Nat} (hp:2≤p):∀(m:Nat) (f:Nat→Nat) (i:Nat),dg p i (ofF p m f)=if i<m then f i%p else 0
  | 0,f,i=>by simp [ofF,ybk]
  | m+1,f,i=>by
    have h1:f 0%p<p:=Nat.mod_lt _ (by lia)
    cases i with
    | zero =>
      rw [if_pos (by lia),zbc]
      show (f 0%p+p*ofF p m (fun j=>f (j+1)))%p=f 0%p
      rw [Nat.add_mul_mod_self_left,Nat.mod_mod]
    | succ i =>
      rw [zbo]
      show dg p i ((f 0%p+p*ofF p m (fun j=>f (j+1)))/p)=_
      rw [Nat.add_mul_div_left _ _ (by lia),Nat.div_eq_of_lt h1,Nat.zero_add,zeY hp m]
      by_cases h:i<m
      · rw [if_pos h,if_pos (by lia)]
      · rw [if_neg h,if_neg (by lia)]
theorem zdu {p:Nat} (hp:2≤p) {m a b:Nat} (ha:a<p^m) (hb:b<p^m) (h:∀i,i<m→dg p i a=dg p i b):a=b :=
  ext hp fun i=>by
    by_cases hi:i<m
    · exact h i hi
    · rw [zaz hp ha (by lia),zaz hp hb (by lia)]
abbrev dgs (p x:Nat):Nat→Nat:=fun i=>dg p i x
def up (p m t x:Nat):Nat:=ofF p m (zaw m (dgs p t) (dgs p x))
noncomputable def mulN (p m t:Nat):Nat→Nat→Nat→Nat
  | 0,_,_=>0
  | k+1,x,y=>ofF p m fun i=>x%p*dg p i y+dg p i (mulN p m t k (x/p) (up p m t y))
def mul (p m t x y:Nat):Nat:=mulN p m t m x y
section
variable {p m t:Nat} (hp:2≤p) (hm:1≤m)
include hp hm
theorem zeT:∀(k x y i:Nat),i<m→dg p i (mulN p m t k x y)=tn m (dgs p t) k (dgs p x) (dgs p y) i%p
  | 0,x,y,i,hi=>by show dg p i 0=0%p;rw [ybk];simp
  | k+1,x,y,i,hi=>by
    show dg p i (ofF p m fun i=>x%p*dg p i y+dg p i (mulN p m t k (x/p) (up p m t y)))=_
    rw [zeY hp,if_pos hi]
    show _=(dg p 0 x*dg p i y+tn m (dgs p t) k (fun j=>dg p (j+1) x) (zaw m (dgs p t) (dgs p y)) i)%p
    rw [zeT k _ _ i hi,zbc]
    refine ybb rfl ?_
    rw [Nat.mod_mod,zcm]
    refine zbb hm k _ _ _ (fun j hj=>?_) i hi
    show dg p j (up p m t y)%p=_
    unfold up
    rw [zeY hp,if_pos hj,Nat.mod_mod]
theorem ygc:∀(k x y:Nat),mulN p m t k x y<p^m
  | 0,x,y=>Nat.pow_pos (by lia)
  | k+1,x,y=>zfZ hp _ _
theorem zbE (x y:Nat):mul p m t x y<p^m:=ygc hp hm _ _ _
theorem zbP (x y i:Nat) (hi:i<m):dg p i (mul p m t x y)=tn m (dgs p t) m (dgs p x) (dgs p y) i%p:=zeT hp hm m x y i hi
theorem zdp {x y r:Nat} (hr:r<p^m) (h:∀i,i<m→dg p i r=tn m (dgs p t) m (dgs p x) (dgs p y) i%p):r=mul p m t x y :=
  zdu hp hr (zbE hp hm x y) fun i hi=>by rw [h i hi,zbP hp hm x y i hi]
end
section
variable {m:Nat} {t:Nat→Nat}
theorem yd9 (c:Nat):∀(k:Nat) (f y z:Nat→Nat),tn m t k f (fun i=>c*y i+z i)=fun i=>c*tn m t k f y i+tn m t k f z i
  | 0,f,y,z=>by funext i;rfl
  | k+1,f,y,z=>by
    funext i
    show f 0*(c*y i+z i)+tn m t k (fun j=>f (j+1)) (zaw m t fun i=>c*y i+z i) i=c*(f 0*y i+tn m t k (fun j=>f (j+1)) (zaw m t y) i)+(f 0*z i+tn m t k (fun j=>f (j+1)) (zaw m t z) i)
    rw [ydu,yd9 c k]
    dsimp only
    rw [Nat.mul_add,Nat.mul_add,Nat.mul_left_comm]
    lia
theorem ydP:∀(k l:Nat) (f g y:Nat→Nat),tn m t k f (tn m t l g y)=tn m t l g (tn m t k f y)
  | 0,l,f,g,y=>by
    show (fun _=>0)=tn m t l g (fun _=>0)
    have h:=yd9 (m:=m) (t:=t) 0 l g (fun _=>0) (fun _=>0)
    funext i
    have h2:=yd9 (m:=m) (t:=t) 1 l g (fun _=>0) (fun _=>0)
    have h3:=congrFun h2 i
    simp at h3
    exact h3.symm
  | k+1,l,f,g,y=>by
    show (fun i=>f 0*tn m t l g y i+tn m t k (fun j=>f (j+1)) (zaw m t (tn m t l g y)) i)=tn m t l g (fun i=>f 0*y i+tn m t k (fun j=>f (j+1)) (zaw m t y) i)
    rw [zd4,ydP k,yd9]
def zbG (s:Nat):Nat→Nat:=fun i=>if i=s then 1 else 0
theorem zfd {s:Nat} (h:s+1<m):zaw m t (zbG s)=zbG (s+1):=by
  funext i
  unfold zaw yaz zbG
  rw [if_neg (show ¬ m-1=s by lia),Nat.zero_mul,Nat.add_zero]
  by_cases hi:i<m
  · rw [if_pos hi]
    by_cases h0:i=0
    · rw [if_pos h0,if_neg (by lia)]
    · rw [if_neg h0]
      by_cases hs:i-1=s
      · rw [if_pos hs,if_pos (by lia)]
      · rw [if_neg hs,if_neg (by lia)]
  · rw [if_neg hi,if_neg (by lia)]
theorem zfh:∀(k s:Nat) (f:Nat→Nat) (i:Nat),s+k≤m→tn m t k f (zbG s) i=if s≤i∧i<s+k then f (i-s) else 0
  | 0,s,f,i,_=>by rw [if_neg (by lia)];rfl
  | k+1,s,f,i,h=>by
    show f 0*zbG s i+tn m t k (fun j=>f (j+1)) (zaw m t (zbG s)) i=_
    cases k with
    | zero =>
      show f 0*zbG s i+0=_
      unfold zbG
      by_cases hi:i=s
      · rw [if_pos hi,if_pos (by lia)];subst hi;simp
      · rw [if_neg hi,if_neg (by lia)];simp
    | succ k =>
      rw [zfd (by lia),zfh (k+1) (s+1) _ i (by lia)]
      unfold zbG
      by_cases hi:i=s
      · subst hi;rw [if_pos rfl,if_neg (by lia),if_pos (by lia)];simp
      · rw [if_neg hi]
        by_cases h2:s+1≤i∧i<s+1+(k+1)
        · rw [if_pos h2,if_pos (by lia)]
          show f 0*0+f (i-(s+1)+1)=f (i-s)
          rw [Nat.mul_zero,Nat.zero_add];congr 1;lia
        · rw [if_neg h2,if_neg (by lia)];simp
theorem zeE (f:Nat→Nat) (i:Nat) (hi:i<m):tn m t m f (zbG 0) i=f i:=by
  rw [zfh m 0 f i (by lia),if_pos (by lia),Nat.sub_zero]
end
section
variable {p m t:Nat} (hp:2≤p) (hm:1≤m)
include hp hm
theorem mul_comm (x y:Nat):mul p m t x y=mul p m t y x:=by
  refine zdu hp (zbE hp hm _ _) (zbE hp hm _ _) fun i hi=>?_
  rw [zbP hp hm _ _ i hi,zbP hp hm _ _ i hi]
  have h1:=zbb (p:=p) hm (t:=dgs p t) m (dgs p x) (dgs p y) (tn m (dgs p t) m (dgs p y) (zbG 0)) (fun j hj=>by rw [zeE _ j hj]) i hi
  have h2:=zbb (p:=p) hm (t:=dgs p t) m (dgs p y) (dgs p x) (tn m (dgs p t) m (dgs p x) (zbG 0)) (fun j hj=>by rw [zeE _ j hj]) i hi
  rw [h1,h2,ydP]
theorem mul_left_comm (x y z:Nat):mul p m t x (mul p m t y z)=mul p m t y (mul p m t x z):=by
  refine zdu hp (zbE hp hm _ _) (zbE hp hm _ _) fun i hi=>?_
  rw [zbP hp hm _ _ i hi,zbP hp hm _ _ i hi]
  have h1:=zbb (p:=p) hm (t:=dgs p t) m (dgs p x) (dgs p (mul p m t y z)) (tn m (dgs p t) m (dgs p y) (dgs p z)) (fun j hj=>by show dg p j _%p=_;rw [zbP hp hm _ _ j hj,Nat.mod_mod]) i hi
  have h2:=zbb (p:=p) hm (t:=dgs p t) m (dgs p y) (dgs p (mul p m t x z)) (tn m (dgs p t) m (dgs p x) (dgs p z)) (fun j hj=>by show dg p j _%p=_;rw [zbP hp hm _ _ j hj,Nat.mod_mod]) i hi
  rw [h1,h2,ydP]
theorem mul_assoc (x y z:Nat):mul p m t (mul p m t x y) z=mul p m t x (mul p m t y z):=by
  rw [mul_comm hp hm _ z,mul_left_comm hp hm z x y,mul_comm hp hm z y]
theorem ya9:1<p^m:=by
  have:p^1≤p^m:=Nat.pow_le_pow_right (by lia) hm
  rw [Nat.pow_one] at this;lia
theorem zgY (i:Nat):dg p i 1=zbG 0 i:=by
  unfold zbG
  cases i with
  | zero=>rw [zbc,if_pos rfl,Nat.mod_eq_of_lt (by lia)]
  | succ i=>rw [if_neg (by lia),zbo,Nat.div_eq_of_lt (by lia),ybk]
theorem mul_one {x:Nat} (hx:x<p^m):mul p m t x 1=x:=by
  refine zdu hp (zbE hp hm _ _) hx fun i hi=>?_
  rw [zbP hp hm _ _ i hi,show dgs p 1=zbG 0 from funext fun i=>zgY hp hm i,zeE _ i hi,yf4]
theorem ybi {x:Nat} (hx:x<p^m):mul p m t 1 x=x:=by rw [mul_comm hp hm,mul_one hp hm hx]
theorem zero_mul (x:Nat):mul p m t 0 x=0:=by
  refine zdu hp (zbE hp hm _ _) (Nat.pow_pos (by lia)) fun i hi=>?_
  rw [zbP hp hm _ _ i hi,ycu _ _ _ _ (fun j=>ybk p j),ybk];simp
theorem mul_zero (x:Nat):mul p m t x 0=0:=by rw [mul_comm hp hm,zero_mul hp hm]
def pw (p m t x:Nat):Nat→Nat
  | 0=>1
  | n+1=>mul p m t (pw p m t x n) x
theorem zcv (x n:Nat):pw p m t x n<p^m:=by
  cases n with
  | zero=>exact ya9 hp hm
  | succ n=>exact zbE hp hm _ _
theorem zb8 (x a:Nat):∀b,pw p m t x (a+b)=mul p m t (pw p m t x a) (pw p m t x b)
  | 0=>(mul_one hp hm (zcv hp hm x a)).symm
  | b+1=>by
    show mul p m t (pw p m t x (a+b)) x=mul p m t (pw p m t x a) (mul p m t (pw p m t x b) x)
    rw [zb8 x a b,mul_assoc hp hm]
theorem zdt {x:Nat} (hx:x<p^m):pw p m t x 1=x:=ybi hp hm hx
theorem ycr (x a:Nat):∀b,pw p m t x (a*b)=pw p m t (pw p m t x a) b
  | 0=>rfl
  | b+1=>by
    rw [Nat.mul_succ,zb8 hp hm,ycr x a b];rfl
theorem yek:∀n,pw p m t 1 n=1
  | 0=>rfl
  | n+1=>by
    show mul p m t (pw p m t 1 n) 1=1
    rw [yek n,mul_one hp hm (ya9 hp hm)]
end
end Dg
end
section
namespace Dg
noncomputable def ygC:List (Nat×Nat×List (Nat×Nat)):=[(2,1,[(1,0)]),(2,2,[(2,2),(3,3),(2,3),(2,0)]),(2,3,[(2,4),(3,7),(2,5),(2,0),(2,6),(2,0),(2,7),(3,5)]),(2,4,[(2,8),(3,15),(2,9),(2,0),(2,10),(7,7),(2,11),(3,13),(2,12),(2,0),(2,13),(3,9),(2,14),(3,11),(2,15),(3,0)]),(3,1,[(2,0)]),(3,2,[(3,3),(4,5),(4,0),(3,5),(3,0),(4,4),(3,4),(3,0),(5,5)]),(3,3,[(3,9),(5,13),(4,16),(3,11),(6,0),(3,0),(3,10),(4,17),(5,14),(3,15),(4,14),(3,0),(3,17),(4,0),(4,13),(3,16),(5,10),(3,0),(3,12),(5,0),(5,17),(3,14),(4,11),(3,0),(3,13),(4,0),(4,10)]),(5,1,[(2,0)]),(5,2,[(5,5),(6,9),(7,0),(6,0),(7,8),(5,9),(7,7),(6,8),(5,0),(6,0),(5,8),(6,0),(5,0),(6,7),(9,9),(5,7),(8,0),(5,0),(8,9),(6,6),(5,6),(8,8),(7,9),(5,0),(7,0)]),(7,1,[(3,0)]),(11,1,[(2,0)]),(13,1,[(2,0)]),(2,5,[(2,16),(3,31),(2,17),(7,13),(2,18),(2,0),(2,19),(3,29),(2,20),(2,0),(2,21),(3,25),(2,22),(3,27),(2,23),(2,0),(2,24),(7,11),(2,25),(3,17),(2,26),(3,19),(2,27),(2,0),(2,28),(3,23),(2,29),(2,0),(2,30),(2,0),(2,31),(3,21)]),(2,6,[(2,32),(3,63),(2,33),(2,0),(2,34),(11,11),(2,35),(3,61),(2,36),(3,0),(2,37),(3,57),(2,38),(3,59),(2,39),(7,25),(2,40),(13,13),(2,41),(3,49),(2,42),(3,51),(2,43),(3,0),(2,44),(3,55),(2,45),(2,0),(2,46),(7,31),(2,47),(3,53),(2,48),(2,0),(2,49),(3,33),(2,50),(3,35),(2,51),(2,0),(2,52),(3,39),(2,53),(7,21),(2,54),(2,0),(2,55),(3,37),(2,56),(3,47),(2,57),(2,0),(2,58),(3,0),(2,59),(3,45),(2,60),(7,19),(2,61),(3,41),(2,62),(3,43),(2,63),(11,13)]),(7,2,[(7,7),(8,13),(10,11),(8,0),(9,12),(8,0),(9,0),(7,13),(9,0),(8,12),(9,0),(7,0),(10,10),(9,11),(7,12),(9,10),(7,0),(8,11),(7,0),(8,0),(13,13),(7,11),(8,0),(7,0),(9,9),(8,10),(12,13),(8,0),(7,10),(11,0),(7,0),(12,12),(11,13),(8,9),(11,0),(7,9),(11,12),(7,0),(10,13),(7,0),(10,0),(8,8),(7,8),(10,0),(9,13),(10,0),(7,0),(11,11),(10,12)]),(61,1,[(2,0)]),(17,1,[(3,0)]),(19,1,[(2,0)]),(23,1,[(5,0)]),(29,1,[(2,0)]),(31,1,[(3,0)]),(37,1,[(2,0)]),(41,1,[(6,0)]),(43,1,[(3,0)]),(47,1,[(5,0)]),(53,1,[(2,0)]),(59,1,[(2,0)])]
def menu:List (Nat×Nat):=ygC.map fun c=>(c.1,c.2.1)
def za5 (p m t b:Nat):Nat→Nat→List Nat
  | _,0=>[]
  | x,n+1=>x::za5 p m t b (mul p m t x b) n
def lowB (p m t b:Nat):Bool:=((za5 p m t b 1 (p^m-1)).drop 1).contains 1
noncomputable def yeF (p m t b:Nat):Bool:=(List.range b).all (fun c=>c==0||lowB p m t c)&&!lowB p m t b&&decide (0<b)&&(List.range (p^m)).all (fun y=>y==0||(za5 p m t b 1 (p^m-1)).contains y)&&(za5 p m t b 1 (p^m)).getLast?==some 1&&decide (b<p^m)
noncomputable def zet (p m t:Nat) (c:Nat×Nat):Bool:=if c.2=0 then yeF p m t c.1 else decide (0<c.1∧c.1<p^m∧c.1<p^(m/2+1)∧c.2<p^m)&&mul p m t c.1 c.2==0
def zdq (p m:Nat):Nat→List (Nat×Nat)→Bool
  | _,[]=>true
  | t,c::cs=>zet p m t c&&zdq p m (t+1) cs
def yhc:Bool:=ygC.all fun c=>zdq c.1 c.2.1 0 c.2.2
theorem zgO:yhc=true:=by decide +kernel
theorem ycz {p m t b:Nat}:∀(n k i:Nat),i<n→(za5 p m t b (pw p m t b k) n)[i]?=some (pw p m t b (k+i))
  | 0,k,i,h=>absurd h (Nat.not_lt_zero _)
  | n+1,k,0,h=>rfl
  | n+1,k,i+1,h=>by
    show (za5 p m t b (pw p m t b (k+1)) n)[i]?=_
    rw [ycz n (k+1) i (by lia),show k+1+i=k+(i+1) by lia]
theorem zcD {p m t b:Nat}:∀(n x:Nat),(za5 p m t b x n).length=n
  | 0,x=>rfl
  | n+1,x=>by show (za5 p m t b _ n).length+1=_;rw [zcD n]
structure Prim (p m t b:Nat):Prop where
  lt:b<p^m
  round:pw p m t b (p^m-1)=1
  all:∀y,0<y→y<p^m→∃i,i<p^m-1∧pw p m t b i=y
  pos:0<b
  min:∀i,0<i→i<p^m-1→pw p m t b i≠1
  low:∀c,0<c→c<b→∃i,0<i∧i<p^m-1∧pw p m t c i=1
theorem zf7 {p m t b:Nat}:lowB p m t b=true↔∃i,0<i∧i<p^m-1∧pw p m t b i=1:=by
  unfold lowB
  rw [List.contains_iff_mem,List.mem_iff_getElem?]
  constructor
  · rintro ⟨j,h⟩
    rw [List.getElem?_drop] at h
    have hl:1+j<p^m-1:=by have:=(List.getElem?_eq_some_iff.mp h).1;rw [zcD] at this;exact this
    have g:=ycz (p:=p) (m:=m) (t:=t) (b:=b) (p^m-1) 0 (1+j) hl
    rw [show pw p m t b 0=1 from rfl,h] at g
    exact ⟨1+j,by lia,hl,by simpa using (Option.some.inj g).symm⟩
  · rintro ⟨i,h0,hi,e⟩
    refine ⟨i-1,?_⟩
    rw [List.getElem?_drop,show 1+(i-1)=i by lia]
    have g:=ycz (p:=p) (m:=m) (t:=t) (b:=b) (p^m-1) 0 i hi
    rw [show pw p m t b 0=1 from rfl,Nat.zero_add,e] at g
    exact g
theorem ycI {p m t b:Nat} (hq:0<p^m) (h:yeF p m t b=true):Prim p m t b:=by
  unfold yeF at h
  simp only [Bool.and_eq_true] at h
  obtain ⟨⟨⟨⟨⟨k1,k2⟩,k3⟩,h1⟩,h2⟩,h3⟩:=h
  refine ⟨of_decide_eq_true h3,?_,fun y hy hy2=>?_,of_decide_eq_true k3,fun i hi hi2 e=>?_,fun c hc hc2=>?_⟩
  · have e:(za5 p m t b 1 (p^m)).getLast?=some 1:=by simpa using h2
    rw [List.getLast?_eq_getElem?,zcD] at e
    have g:=ycz (p:=p) (m:=m) (t:=t) (b:=b) (p^m) 0 (p^m-1) (by lia)
    rw [show pw p m t b 0=1 from rfl] at g
    rw [g] at e
    simpa using Option.some.inj e
  · rw [List.all_eq_true] at h1
    have g:=h1 y (List.mem_range.mpr hy2)
    rw [Bool.or_eq_true] at g
    rcases g with g|g
    · have:y=0:=by simpa using g
      lia
    · have g:y∈za5 p m t b 1 (p^m-1):=List.contains_iff_mem.mp g
      obtain ⟨i,hi,e⟩:=List.mem_iff_getElem.mp g
      rw [zcD] at hi
      have g2:=ycz (p:=p) (m:=m) (t:=t) (b:=b) (p^m-1) 0 i hi
      rw [show pw p m t b 0=1 from rfl,List.getElem?_eq_getElem (by rw [zcD];exact hi),e] at g2
      exact ⟨i,hi,by simpa using (Option.some.inj g2).symm⟩
  · have:=zf7.mpr ⟨i,hi,hi2,e⟩
    rw [this] at k2
    cases k2
  · have g:=List.all_eq_true.mp k1 c (List.mem_range.mpr hc2)
    rw [Bool.or_eq_true] at g
    rcases g with g|g
    · have:c=0:=by simpa using g
      lia
    · exact zf7.mp g
theorem yb0 {p m:Nat}:∀(cs:List (Nat×Nat)) (t i:Nat) (c:Nat×Nat),zdq p m t cs=true→cs[i]?=some c→zet p m (t+i) c=true
  | [],t,i,c,_,h=>by simp at h
  | d::cs,t,0,c,h,e=>by
    have h:(zet p m t d&&zdq p m (t+1) cs)=true:=h
    rw [Bool.and_eq_true] at h
    cases e
    exact h.1
  | d::cs,t,i+1,c,h,e=>by
    have h:(zet p m t d&&zdq p m (t+1) cs)=true:=h
    rw [Bool.and_eq_true] at h
    have g:=yb0 cs (t+1) i c h.2 (by simpa using e)
    rw [show t+(i+1)=t+1+i by lia];exact g
theorem zfN (p t x y:Nat):mul p 1 t x y=mul p 1 0 x y:=rfl
theorem zcB (p t x:Nat):∀n,pw p 1 t x n=pw p 1 0 x n
  | 0=>rfl
  | n+1=>by
    show mul p 1 t (pw p 1 t x n) x=mul p 1 0 (pw p 1 0 x n) x
    rw [zcB p t x n,zfN]
structure Good (p m t:Nat):Prop where
  mem:(p,m)∈menu
  top:t<p^m
  no:m=1∨∀x y,0<x→x<p^m→x<p^(m/2+1)→0<y→y<p^m→mul p m t x y≠0
noncomputable def zfW:Bool:=ygC.all fun c=>decide (2≤c.1∧1≤c.2.1∧c.1^c.2.1≤64)&&(if c.2.1=1 then decide (c.2.2.length=1)&&c.2.2.all (fun d=>d.2==0) else decide (c.2.2.length=c.1^c.2.1))
theorem zdB:zfW=true:=by decide +kernel
theorem zaE {p m:Nat} (h:(p,m)∈menu):2≤p∧1≤m∧p^m≤64:=by
  obtain ⟨c,hc,e⟩:=List.mem_map.mp h
  cases e
  have g:=List.all_eq_true.mp zdB c hc
  rw [Bool.and_eq_true] at g
  exact of_decide_eq_true g.1
theorem Good.prim {p m t:Nat} (h:Good p m t):∃b,Prim p m t b:=by
  obtain ⟨c,hc,e⟩:=List.mem_map.mp h.mem
  obtain ⟨p',m',cs⟩:=c
  obtain ⟨rfl,rfl⟩:p'=p∧m'=m:=by simpa using e
  have hs:=zaE h.mem
  have hq:0<p'^m':=Nat.pow_pos (by lia)
  have g:=List.all_eq_true.mp zdB _ hc
  have a:=List.all_eq_true.mp zgO _ hc
  rw [Bool.and_eq_true] at g
  have g:=g.2
  dsimp only at g a
  by_cases h1:m'=1
  · subst h1
    rw [if_pos rfl,Bool.and_eq_true] at g
    have hl:cs.length=1:=of_decide_eq_true g.1
    obtain ⟨c,rfl⟩:∃c,cs=[c]:=by
      cases cs with
      | nil=>simp at hl
      | cons c r=>cases r with
        | nil=>exact ⟨c,rfl⟩
        | cons d r=>simp at hl
    have a1:=yb0 [c] 0 0 c a rfl
    have c0:c.2=0:=by simpa using List.all_eq_true.mp g.2 c (by simp)
    unfold zet at a1
    rw [if_pos c0] at a1
    have P:=ycI hq a1
    refine ⟨c.1,P.lt,?_,fun y hy hy2=>?_,P.pos,fun i h1 h2=>?_,fun d h1 h2=>?_⟩
    · rw [zcB];exact P.round
    · obtain ⟨i,hi,e⟩:=P.all y hy hy2
      exact ⟨i,hi,by rw [zcB];exact e⟩
    · rw [zcB];exact P.min i h1 h2
    · obtain ⟨i,a,b,e⟩:=P.low d h1 h2
      exact ⟨i,a,b,by rw [zcB];exact e⟩
  · rw [if_neg h1] at g
    have hl:cs.length=p'^m':=of_decide_eq_true g
    have ht:t<cs.length:=by rw [hl];exact h.top
    have a1:=yb0 cs 0 t cs[t] a (List.getElem?_eq_getElem ht)
    rw [Nat.zero_add] at a1
    unfold zet at a1
    by_cases c0:cs[t].2=0
    · rw [if_pos c0] at a1
      exact ⟨_,ycI hq a1⟩
    · rw [if_neg c0,Bool.and_eq_true] at a1
      have b:=of_decide_eq_true a1.1
      rcases h.no with h2|h2
      · exact absurd h2 h1
      · exact absurd (by simpa using a1.2) (h2 _ _ b.1 b.2.1 b.2.2.1 (by lia) b.2.2.2)
section
variable {p m t:Nat} (G:Good p m t)
include G
theorem Good.hp:2≤p:=(zaE G.mem).1
theorem Good.hm:1≤m:=(zaE G.mem).2.1
theorem Good.hq:p^m≤64:=(zaE G.mem).2.2
theorem Good.fermat {x:Nat} (h0:0<x) (hx:x<p^m):pw p m t x (p^m-1)=1:=by
  obtain ⟨b,P⟩:=G.prim
  obtain ⟨i,_,rfl⟩:=P.all x h0 hx
  rw [←ycr G.hp G.hm,Nat.mul_comm,ycr G.hp G.hm,P.round,yek G.hp G.hm]
theorem Good.inv {x:Nat} (h0:0<x) (hx:x<p^m):mul p m t (pw p m t x (p^m-2)) x=1:=by
  have h2:=ya9 G.hp G.hm
  have e:p^m-1=(p^m-2)+1:=by lia
  have f:=G.fermat h0 hx
  rw [e] at f
  exact f
theorem Good.noz {x y:Nat} (h0:0<x) (hx:x<p^m) (k0:0<y) (hy:y<p^m):0<mul p m t x y:=by
  rcases Nat.eq_zero_or_pos (mul p m t x y) with e|e
  · have i:=G.inv h0 hx
    have f:mul p m t (pw p m t x (p^m-2)) (mul p m t x y)=y:=by rw [←mul_assoc G.hp G.hm,i,ybi G.hp G.hm hy]
    rw [e,mul_zero G.hp G.hm] at f
    lia
  · exact e
theorem Good.inj {b:Nat} (P:Prim p m t b):∀i j,i<p^m-1→j<p^m-1→pw p m t b i=pw p m t b j→i=j:=by
  have key:∀i j,i<j→j<p^m-1→pw p m t b i≠pw p m t b j:=by
    intro i j hij hj e
    have hp:=G.hp
    have hm:=G.hm
    have h1:mul p m t (pw p m t b (p^m-1-i)) (pw p m t b i)=1:=by rw [←zb8 hp hm,show p^m-1-i+i=p^m-1 by lia,P.round]
    have h2:mul p m t (pw p m t b (p^m-1-i)) (pw p m t b j)=pw p m t b (j-i):=by
      rw [show j=i+(j-i) by lia,zb8 hp hm,←mul_assoc hp hm,h1,ybi hp hm (zcv hp hm _ _),show i+(j-i)-i=j-i by lia]
    rw [←e,h1] at h2
    exact P.min (j-i) (by lia) (by lia) h2.symm
  intro i j hi hj e
  rcases Nat.lt_trichotomy i j with h|h|h
  · exact absurd e (key i j h hj)
  · exact h
  · exact absurd e.symm (key j i h hi)
theorem Good.pw_mod {x:Nat} (h0:0<x) (hx:x<p^m) (n:Nat):pw p m t x (n%(p^m-1))=pw p m t x n:=by
  have e:=Nat.div_add_mod n (p^m-1)
  have g:pw p m t x n=mul p m t (pw p m t x ((p^m-1)*(n/(p^m-1)))) (pw p m t x (n%(p^m-1))):=by rw [←zb8 G.hp G.hm,e]
  rw [g,ycr G.hp G.hm,G.fermat h0 hx,yek G.hp G.hm,ybi G.hp G.hm (zcv G.hp G.hm _ _)]
end
end Dg
end
section
namespace Dg
end Dg
end
section
namespace Dg
end Dg
end
section
namespace Dg
end Dg
end
section
namespace L2
open PySem PySem.Spec PyProof.Rows
end L2
end
section
namespace L2
open PySem PySem.Spec PyProof.Rows
end L2
end
section
namespace L2
open PySem PySem.Spec PyProof.Rows
end L2
end
section
namespace L2
open PySem PySem.Spec PyProof.Rows PySem.W
end L2
namespace L2
open PySem PySem.Spec PyProof.Rows PySem.W
end L2
namespace L2
open PySem PySem.Spec PyProof.Rows
end L2
namespace L2
open PySem PySem.Spec PyProof.Rows
end L2
namespace L2
open PySem PySem.Spec PyProof.Rows
end L2
end
section
namespace L2
open PySem PySem.Spec PyProof.Rows
end L2
namespace L2
open PySem PySem.Spec PyProof.Rows
end L2
end
section
namespace L2
open PySem PySem.Spec PyProof.Rows
end L2
namespace L2
open PySem PySem.Spec PyProof.Rows
end L2
namespace L2
open PySem PySem.Spec PyProof.Rows PySem.W
end L2
end
section
namespace L2
open PySem PySem.Spec PyProof.Rows
end L2
namespace L2
open PySem PySem.Spec PyProof.Rows
end L2
end
section
namespace L2
open PySem PySem.Spec PyProof.Rows
section
variable {X:Cx}
def rIsB:R2:=fun x y H Q=>Ex2 fun (a b:Bool)=>x = .bl a∧y = .bl b∧Q (.bl (a==b)) H
theorem zgP:OpR X (compareOp .Is) rIsB:=by
  intro pins s σ H x y v u Q I rx ry h
  obtain ⟨a,b,rfl,rfl,q⟩:=h
  cases rx;cases ry
  refine wpAny_is_plain rfl ⟨.bl (a==b),H,I,?_,q⟩
  show Value.bool _=Value.bool _
  cases a <;> cases b <;> rfl
noncomputable def yaU (K:PySem.W.Frag) (H:Hp) (x:V) (T:String):Prop:=yfn K H x T∨(T = "dict"∧Ex2 fun a kvs=>x = .ref a∧H a=some (.dK kvs))
noncomputable def yfv (K:PySem.W.Frag) (U:String):List V→Hp→VK→Prop:=fun xs H Q=>Ex2 fun x T=>xs=[x,.ty U]∧yaU K H x T∧Q (.bl (subK T U)) H
theorem zco {U:String} (hU:subK "dict" U=false) (hty:typeOf (.type U)=pure (.type "type")) (hsub:isSubtype (.type "dict") (.type U)=pure false) (hc:zaY X (.builtin "isinstance") (rIsi X.K U)):zaY X (.builtin "isinstance") (yfv X.K U):=by
  intro pins s σ H xs us Q I r h
  obtain ⟨x,T,rfl,hk,q⟩:=h
  rcases hk with hk | ⟨rfl,a,kvs,rfl,e⟩
  · exact hc pins s σ H _ us Q I r ⟨x,T,rfl,hk,q⟩
  · obtain ⟨u,w',rfl,rx,ry⟩:=zfK r
    cases ry;cases rx
    have ok:=I.hok _ _ e
    obtain ⟨_,_,vs,_,d⟩:=ok
    rw [hU] at q
    refine call_isinstance (isinstance_false_dict (ybH hU) hty hsub) ⟨?_,⟨.bl false,H,I.tok _,rfl,q⟩⟩
    obtain ⟨o,es,ep,ho,hx,_⟩:=d
    exact ⟨o,ho,hx.1⟩
theorem zcd:zaY X (.builtin "isinstance") (yfv X.K "int"):=zco (by decide) (by rfl) (by rw [isSubtype_type];kernel_rfl) ygd
theorem zcr:zaY X (.builtin "isinstance") (yfv X.K "bool"):=zco (by decide) (by rfl) (by rw [isSubtype_type];kernel_rfl) zfS
theorem yau:zaY X (.builtin "isinstance") (yfv X.K "tuple"):=zco (by decide) (by rfl) (by rw [isSubtype_type];kernel_rfl) zfb
theorem ydO:bootBuiltins "str"=some (.type "str"):=by decide +kernel
end
end L2
end
section
namespace L2
open PySem PyProof.Rows
def jn:List (List Nat)→List Nat
  | []=>[]
  | [x]=>x
  | x::y::r=>x++44::32::jn (y::r)
theorem zgv:∀ {x y r s:List Nat},44∉x→44∉y→x++44::r=y++44::s→x=y∧r=s
  | [],[],r,s,_,_,e=>⟨rfl,by injection e⟩
  | [],b::y,r,s,_,h,e=>by injection e with e1 _;exact absurd (e1 ▸ List.mem_cons_self) h
  | a::x,[],r,s,h,_,e=>by injection e with e1 _;exact absurd (e1 ▸ List.mem_cons_self) h
  | a::x,b::y,r,s,h1,h2,e=>by
    injection e with e1 e2
    obtain ⟨e3,e4⟩:=zgv (fun q=>h1 (List.mem_cons_of_mem _ q)) (fun q=>h2 (List.mem_cons_of_mem _ q)) e2
    exact ⟨by rw [e1,e3],e4⟩
theorem yf8:∀ {xs:List (List Nat)} {x:List Nat} {c:Nat},x∈xs→c∈x→c∈jn xs
  | [_],x,c,h,hc=>by rw [List.mem_singleton.mp h] at hc;exact hc
  | x::y::r,z,c,h,hc=>by
    show c∈x++44::32::jn (y::r)
    rcases List.mem_cons.mp h with rfl|h
    · exact List.mem_append_left _ hc
    · exact List.mem_append_right _ (List.mem_cons_of_mem _ (List.mem_cons_of_mem _ (yf8 h hc)))
theorem zgb:∀ {xs ys:List (List Nat)},xs≠[]→ys≠[]→(∀x∈xs,44∉x)→(∀y∈ys,44∉y)→jn xs=jn ys→xs=ys
  | [],_,h,_,_,_,_=>absurd rfl h
  | _,[],_,h,_,_,_=>absurd rfl h
  | [x],[y],_,_,_,_,e=>by rw [show x=y from e]
  | [x],y::z::r,_,_,hx,_,e=>by
    have:44∈x:=by rw [show x=y++44::32::jn (z::r) from e];simp
    exact absurd this (hx x (by simp))
  | x::z::r,[y],_,_,_,hy,e=>by
    have:44∈y:=by rw [show y=x++44::32::jn (z::r) from e.symm];simp
    exact absurd this (hy y (by simp))
  | x::u::r,y::v::s,_,_,hx,hy,e=>by
    obtain ⟨e1,e2⟩:=zgv (hx x (by simp)) (hy y (by simp)) (show x++44::(32::jn (u::r))=y++44::(32::jn (v::s)) from e)
    injection e2 with _ e2
    rw [e1,zgb (by simp) (by simp) (fun a h=>hx a (List.mem_cons_of_mem _ h)) (fun a h=>hy a (List.mem_cons_of_mem _ h)) e2]
theorem zd8:∀ts:List Str,(Str.join ", " ts).cps.toList=jn (ts.map fun t=>t.cps.toList)
  | []=>rfl
  | [x]=>rfl
  | x::y::r=>by
    show ((x++((", ":String):Str))++Str.join ", " (y::r)).cps.toList=_
    rw [cps_toList_append,cps_toList_append,signs_sep,zd8 (y::r)]
    simp [jn]
theorem ycL (d:PyData):(∃i,d = .int i)∨(∃xs,d = .tuple xs)∨∃c∈d.shown.cps.toList,c∈[93,123,78,84,70,39,34]:=by
  cases d with
  | none=>exact .inr (.inr ⟨78,by simp only [PyData.shown];decide,by decide⟩)
  | bool b=>cases b with
    | true=>exact .inr (.inr ⟨84,by simp only [PyData.shown];decide,by decide⟩)
    | false=>exact .inr (.inr ⟨70,by simp only [PyData.shown];decide,by decide⟩)
  | int i=>exact .inl ⟨i,rfl⟩
  | str x =>
    refine .inr (.inr ⟨reprQuote x,?_,?_⟩)
    · simp only [PyData.shown,reprText];simp
    · unfold reprQuote;split <;> simp
  | list xs=>exact .inr (.inr ⟨93,by
      simp only [PyData.shown]
      unfold listText
      rw [mem_cps_append]
      exact .inr (by decide),by decide⟩)
  | tuple xs=>exact .inr (.inl ⟨xs,rfl⟩)
  | dict kvs=>exact .inr (.inr ⟨123,by
      simp only [PyData.shown]
      unfold dictText
      rw [mem_cps_append,mem_cps_append]
      exact .inl (.inl (by decide)),by decide⟩)
theorem yaG (xs:List PyData):(PyData.tuple xs).shown.cps.toList=40::(jn ((PyData.shownAll xs).map fun t=>t.cps.toList)++(if (PyData.shownAll xs).length==1 then [44,41] else [41])):=by
  simp only [PyData.shown]
  unfold tupleText
  rw [cps_toList_append,cps_toList_append,zd8,signs_lparen]
  by_cases c:((PyData.shownAll xs).length==1)=true
  · rw [if_pos c,if_pos c];rfl
  · rw [if_neg c,if_neg c];rfl
theorem yaP:∀xs:List PyData,PyData.shownAll xs=xs.map PyData.shown
  | []=>rfl
  | x::xs=>by simp only [PyData.shownAll,List.map_cons,yaP xs]
theorem zdW {i j:Int} (h:(PyData.int i).shown.cps.toList=(PyData.int j).shown.cps.toList):i=j:=by
  simp only [PyData.shown] at h
  have e:(toString i:String).toList.map Char.toNat=(toString j:String).toList.map Char.toNat:=by
    rw [←signs_ofString,←signs_ofString];exact h
  have e2:(toString i:String).toList=(toString j:String).toList:=(List.map_inj_right (fun a b q=>Char.toNat_inj.mp q)).mp e
  have e3:(toString i:String)=toString j:=String.toList_inj.mp e2
  exact Int.repr_inj.mp e3
theorem zcw (k:Nat) (i:Int) (hk:k≠45∧(k<48∨57<k)):k∉(PyData.int i).shown.cps.toList:=shown_int_free' hk i
theorem zgl:∀ {xs:List (List Nat)} {c:Nat},c∈jn xs→(∃x∈xs,c∈x)∨c=44∨c=32
  | [],c,h=>nomatch h
  | [x],c,h=>.inl ⟨x,List.mem_singleton.mpr rfl,h⟩
  | x::y::r,c,h=>by
    rcases List.mem_append.mp (show c∈x++44::32::jn (y::r) from h) with h|h
    · exact .inl ⟨x,List.mem_cons_self,h⟩
    · rcases List.mem_cons.mp h with h|h
      · exact .inr (.inl h)
      · rcases List.mem_cons.mp h with h|h
        · exact .inr (.inr h)
        · rcases zgl h with ⟨z,hz,hc⟩|h
          · exact .inl ⟨z,List.mem_cons_of_mem _ hz,hc⟩
          · exact .inr h
theorem zel:∀ {xs:List PyData},(∀x∈xs,∃i,x = .int i)→∃ms:List Int,xs=ms.map .int
  | [],_=>⟨[],rfl⟩
  | x::xs,h=>by
    obtain ⟨i,rfl⟩:=h x List.mem_cons_self
    obtain ⟨ms,rfl⟩:=zel fun y hy=>h y (List.mem_cons_of_mem _ hy)
    exact ⟨i::ms,rfl⟩
abbrev itx (i:Int):List Nat:=(PyData.int i).shown.cps.toList
theorem yex {d:PyData} {ns:List Int} (hn:2≤ns.length) (h:d.shown=(PyData.tuple (ns.map .int)).shown):d = .tuple (ns.map .int):=by
  have txt:∀ms:List Int,(PyData.tuple (ms.map .int)).shown.cps.toList=40::(jn (ms.map itx)++(if ms.length==1 then [44,41] else [41])):=fun ms=>by
    rw [yaG,yaP,List.map_map,List.map_map,List.length_map,List.length_map];rfl
  have hT:d.shown.cps.toList=40::(jn (ns.map itx)++[41]):=by
    rw [h,txt,if_neg (by simp;omega)]
  have hin:∀c,c∈jn (ns.map itx)++[41]→c∉[93,123,78,84,70,39,34]∧c≠40:=fun c hc=>by
    rcases List.mem_append.mp hc with hc|hc
    · rcases zgl hc with ⟨x,hx,hc⟩|rfl|rfl
      · obtain ⟨i,_,rfl⟩:=List.mem_map.mp hx
        refine ⟨fun hb=>?_,fun e=>zcw 40 i (by decide) (e ▸ hc)⟩
        refine zcw c i ?_ hc
        simp only [List.mem_cons,List.not_mem_nil,or_false] at hb
        omega
      · exact ⟨by decide,by decide⟩
      · exact ⟨by decide,by decide⟩
    · rw [List.mem_singleton.mp hc];exact ⟨by decide,by decide⟩
  rcases ycL d with ⟨i,rfl⟩ | ⟨xs,rfl⟩ | ⟨c,hc,hb⟩
  · exact absurd (show 40∈(PyData.int i).shown.cps.toList by rw [hT];exact List.mem_cons_self) (zcw 40 i (by decide))
  · rw [yaG] at hT
    injection hT with _ e
    obtain ⟨ms,rfl⟩:∃ms:List Int,xs=ms.map .int:=zel fun x hx=>by
      have sub:∀c∈x.shown.cps.toList,c∈jn (ns.map itx)++[41]:=fun c hc=>by
        rw [←e]
        refine List.mem_append_left _ (yf8 (List.mem_map.mpr ⟨x.shown,?_,rfl⟩) hc)
        rw [yaP];exact List.mem_map.mpr ⟨x,hx,rfl⟩
      rcases ycL x with h | ⟨ys,rfl⟩ | ⟨c,hc,hb⟩
      · exact h
      · exact absurd rfl (hin 40 (sub 40 (by rw [yaG];exact List.mem_cons_self))).2
      · exact absurd hb (hin c (sub c hc)).1
    have e2:jn (ms.map itx)++(if ms.length==1 then [44,41] else [41])=jn (ns.map itx)++[41]:=by
      rw [yaP,List.map_map,List.map_map,List.length_map,List.length_map] at e;exact e
    have free:∀(l:List Int) x,x∈l.map itx→44∉x:=fun l x hx=>by
      obtain ⟨i,_,rfl⟩:=List.mem_map.mp hx
      exact zcw 44 i (by decide)
    obtain ⟨a,b,r,rfl⟩:Ex3 fun a b r=>ns=a::b::r:=by
      match ns,hn with
      | a::b::r,_=>exact ⟨a,b,r,rfl⟩
    have hms:ms=a::b::r:=by
      match ms,e2 with
      | [],e2 =>
        have:44∈([41]:List Nat):=by
          rw [show ([41]:List Nat)=jn ((a::b::r).map itx)++[41] from e2]
          simp [jn]
        exact absurd this (by decide)
      | [x],e2 =>
        have e3:itx x++44::([]:List Nat)=itx a++44::(32::jn ((b::r).map itx)):=List.append_cancel_right (bs:=[41]) (by
          rw [List.append_assoc];exact e2)
        obtain ⟨_,e4⟩:=zgv (zcw 44 x (by decide)) (zcw 44 a (by decide)) e3
        cases e4
      | x::y::s,e2 =>
        have e3:jn ((x::y::s).map itx)=jn ((a::b::r).map itx):=List.append_cancel_right (bs:=[41]) (by
          exact e2)
        exact (List.map_inj_right fun _ _ q=>zdW q).mp (zgb (by simp) (by simp) (free _) (free _) e3)
    rw [hms]
  · rw [hT] at hc
    rcases List.mem_cons.mp hc with rfl|hc
    · exact absurd hb (by decide)
    · exact absurd hb (hin c hc).1
end L2
end
section
namespace L2
open PySem PyProof.Rows
noncomputable def RdL (K:PySem.W.Frag) (H:Hp):Nat→V→PyData→Prop
  | 0,_,_=>False
  | n+1,v,d=>(v = .non∧d = .none)∨(∃b,v = .bl b∧d = .bool b)∨(∃i:Int,v = .int i∧d = .int i)∨(∃x,v = .str x∧d = .str x)∨
    (Ex3 fun (a:Addr) (xs:List V) (ds:List PyData)=>v = .ref a∧d = .tuple ds∧SqT K H a xs∧xs.length=ds.length∧∀(i:Nat) x e,xs[i]?=some x→ds[i]?=some e→RdL K H n x e)∨
    Ex3 fun (a:Addr) (xs:List V) (ds:List PyData)=>v = .ref a∧d = .list ds∧SqL K H a xs∧xs.length=ds.length∧∀(i:Nat) x e,xs[i]?=some x→ds[i]?=some e→RdL K H n x e
theorem zcx:∀ {us:List Value} {ds:List PyData},us.length=ds.length→(∀(i:Nat) u e,us[i]?=some u→ds[i]?=some e→∃as,Reads h u e as)→∃as,ReadsAll h us ds as
  | [],[],_,_=>⟨_,.nil⟩
  | [],_::_,hl,_=>by cases hl
  | _::_,[],hl,_=>by cases hl
  | u::us,d::ds,hl,hr=>by
    obtain ⟨as,h1⟩:=hr 0 u d rfl rfl
    obtain ⟨bs,h2⟩:=zcx (us:=us) (ds:=ds) (by simpa using hl) fun i u' e hu he=>hr (i+1) u' e hu he
    exact ⟨_,.cons h1 h2⟩
section
variable {X:Cx}
theorem ydr (I:Inv X pins σ H s):∀(n:Nat) (x:V) (d:PyData) (u:Value),RdL X.K H n x d→RelV x u→∃as,Reads s.heap u d as
  | 0,_,_,_,h,_=>h.elim
  | n+1,x,d,u,h,r=>by
    have seq:∀ {xs:List V} {us:List Value} {ds:List PyData},Vals xs us→xs.length=ds.length→(∀(i:Nat) x e,xs[i]?=some x→ds[i]?=some e→RdL X.K H n x e)→∃as,ReadsAll s.heap us ds as:=fun {xs us ds} r1 hl hx=>by
      have l1:=r1.length
      refine zcx (by lia) fun i u e hu he=>?_
      have hi:=(List.getElem?_eq_some_iff.mp hu).1
      obtain ⟨x1,e1,q1⟩:=zc9 r1 (i:=i) (by simpa using hi)
      have eu:us.toArray[i]'(by simpa using hi)=u:=by
        have:=(List.getElem?_eq_some_iff.mp hu).2
        simpa using this
      rw [eu] at q1
      exact ydr I n x1 e u (hx i x1 e e1 he) q1
    rcases h with ⟨rfl,rfl⟩ | ⟨b,rfl,rfl⟩ | ⟨i,rfl,rfl⟩ | ⟨z,rfl,rfl⟩ | ⟨a,xs,ds,rfl,rfl,ha,hl,hx⟩ | ⟨a,xs,ds,rfl,rfl,ha,hl,hx⟩
    · cases r;exact ⟨_,.none⟩
    · cases r;exact ⟨_,.bool b⟩
    · obtain ⟨t,rfl⟩:=r;exact ⟨_,.int i t⟩
    · obtain ⟨t,rfl⟩:=r;exact ⟨_,.str z t⟩
    · cases r
      obtain ⟨us,r1,⟨o,ho,hc,k,hd⟩,z1⟩:=I.tuple ha
      obtain ⟨as,q⟩:=seq r1 hl hx
      exact ⟨_,.tuple ho hc hd q⟩
    · cases r
      obtain ⟨us,r1,⟨o,n',ho,hc,_,hd⟩,z1⟩:=I.list ha
      obtain ⟨as,q⟩:=seq r1 hl hx
      exact ⟨_,.list ho hc hd q⟩
noncomputable def RdD (K:PySem.W.Frag) (H:Hp):Nat→V→PyData→Prop
  | 0,_,_=>False
  | n+1,v,d=>(∃i:Int,v = .int i∧d = .int i)∨
    (Ex3 fun (a:Addr) (xs:List V) (ds:List PyData)=>v = .ref a∧d = .tuple ds∧SqT K H a xs∧xs.length=ds.length∧∀(i:Nat) x e,xs[i]?=some x→ds[i]?=some e→RdD K H n x e)∨
    (Ex5 fun (a:Addr) (k:Int) (x:V) (e:PyData) (m:Nat)=>v = .ref a∧d = .dict [(.int k,e)]∧H a=some (.dK [(.inl k,x)])∧RdN K H m x e)∨∃a:Addr,v = .ref a∧d = .dict []∧H a=some (.dK [])
theorem zb7 {h:Heap}:∀ {us:List Value} {ds:List PyData},us.length=ds.length→(∀(i:Nat) u e,us[i]?=some u→ds[i]?=some e→∃as,Reads h u e as∧sysModules∉as)→∃as,ReadsAll h us ds as∧sysModules∉as
  | [],[],_,_=>⟨_,.nil,List.not_mem_nil⟩
  | [],_::_,hl,_=>by cases hl
  | _::_,[],hl,_=>by cases hl
  | u::us,d::ds,hl,hr=>by
    obtain ⟨as,h1,n1⟩:=hr 0 u d rfl rfl
    obtain ⟨bs,h2,n2⟩:=zb7 (us:=us) (ds:=ds) (by simpa using hl) fun i u' e hu he=>hr (i+1) u' e hu he
    exact ⟨_,.cons h1 h2,fun q=>(List.mem_append.mp q).elim n1 n2⟩
theorem zdF (I:Inv X pins σ H s):∀(n:Nat) (x:V) (d:PyData) (u:Value),RdD X.K H n x d→RelV x u→∃as,Reads s.heap u d as∧sysModules∉as
  | 0,_,_,_,h,_=>h.elim
  | n+1,x,d,u,h,r=>by
    rcases h with ⟨i,rfl,rfl⟩ | ⟨a,xs,ds,rfl,rfl,ha,hl,hx⟩ | ⟨a,k,x,e,m,rfl,rfl,ha,hx⟩ | ⟨a,rfl,rfl,ha⟩
    · obtain ⟨t,rfl⟩:=r;exact ⟨_,.int i t,List.not_mem_nil⟩
    · cases r
      obtain ⟨us,r1,⟨o,ho,hc,k,hd⟩,z1⟩:=I.tuple ha
      have l1:=r1.length
      obtain ⟨as,q,nq⟩:=zb7 (h:=s.heap) (us:=us) (ds:=ds) (by lia) fun i u e hu he=>by
        have hi:=(List.getElem?_eq_some_iff.mp hu).1
        obtain ⟨x1,e1,q1⟩:=zc9 r1 (i:=i) (by simpa using hi)
        have eu:us.toArray[i]'(by simpa using hi)=u:=by
          have:=(List.getElem?_eq_some_iff.mp hu).2
          simpa using this
        rw [eu] at q1
        exact zdF I n x1 e u (hx i x1 e e1 he) q1
      exact ⟨_,.tuple ho hc hd q,nq⟩
    · cases r
      obtain ⟨hz,hS,vs,hv,o,es,ep,ho,hex,hd,_,hp,_⟩:[((.inl k:Key),x)].length≤sizeLine∧(a==sysModules)=false∧∃vs,KV [((.inl k:Key),x)] vs∧s.heap.DictOf (zat X.prog X.w) a vs:=I.hok a _ ha
      cases hv with
      | cons hh ht =>
        cases ht
        obtain ⟨e1,e2⟩:=hh
        dsimp only at e1 e2
        generalize he:es.toList=el at hp
        cases hp with
        | cons hk hval hp' =>
          cases hp'
          rename_i en
          obtain ⟨t,ek⟩:=Value.isInt_shape (k:=k) (v:=en.key) (by rw [←e1] at hk;exact hk)
          have R:=ycV I m x e _ hx e2
          refine ⟨_,.dict (as:=[]) (bs:=[]) ho hex.1 hd ?_ ?_,?_⟩
          · rw [he]
            show ReadsAll s.heap [en.key] [.int k] []
            rw [ek]
            exact .cons (as:=[]) (bs:=[]) (.int k t) .nil
          · rw [he]
            show ReadsAll s.heap [en.val] [e] []
            rw [hval]
            exact .cons (as:=[]) (bs:=[]) R .nil
          · intro q
            have q:sysModules=a:=by simpa using q
            rw [q] at hS
            simp at hS
    · cases r
      obtain ⟨hz,hS,vs,hv,o,es,ep,ho,hex,hd,_,hp,_⟩:([]:List (Key×V)).length≤sizeLine∧(a==sysModules)=false∧∃vs,KV [] vs∧s.heap.DictOf (zat X.prog X.w) a vs:=I.hok a _ ha
      cases hv
      generalize he:es.toList=el at hp
      cases hp
      refine ⟨_,.dict (as:=[]) (bs:=[]) ho hex.1 hd ?_ ?_,?_⟩
      · rw [he];exact .nil
      · rw [he];exact .nil
      · intro q
        have q:sysModules=a:=by simpa using q
        rw [q] at hS
        simp at hS
noncomputable def ygM (K:PySem.W.Frag):List V→Hp→VK→Prop:=fun vs H Q=>Ex3 fun (v:V) (d:PyData) (n:Nat)=>vs=[v]∧(RdL K H n v d∧d.hasDict=false∨RdD K H n v d)∧d.showable=true∧d.depth≤50∧d.shown.length≤sizeLine∧Q (.str d.shown) H
theorem zcJ (hg:X.A.guards=some []) (hu:X.A.units+64<cLine):zaY X (.builtin "repr") (ygM X.K):=by
  intro pins s σ H vs us Q I r h
  obtain ⟨v,d,n,rfl,hr,h1,h3,h4,q⟩:=h
  obtain ⟨u,rfl,rx⟩:=zcH r
  obtain ⟨as,R,hsm⟩:∃as,Reads s.heap u d as∧(d.hasDict=true→sysModules∉as):=by
    rcases hr with ⟨hr,h2⟩|hr
    · obtain ⟨as,R⟩:=ydr I n v d u hr rx
      exact ⟨as,R,fun e=>by rw [h2] at e;cases e⟩
    · obtain ⟨as,R,nq⟩:=zdF I n v d u hr rx
      exact ⟨as,R,fun _=>nq⟩
  have fin:∀(h':Heap) (tk:Nat) (t:Tok),(∀b o,s.heap.get? b=some o→h'.get? b=some o)→EP X pins σ Q (.str d.shown t) { s with heap:=h',toks:=tk }:=fun h' tk t hk=>⟨.str d.shown,H,I.kept (fun b o e=>hk b o e),⟨t,rfl⟩,q⟩
  have hdep:X.A.units+(d.depth+1)<cLine:=by lia
  cases R with
  | none=>exact P.repr_of_none (fin s.heap (s.toks+1) s.toks fun _ _ e=>e)
  | bool b=>exact P.repr_of_bool (fin s.heap (s.toks+1) s.toks fun _ _ e=>e)
  | int i t=>exact P.repr_of_int (by simpa [PyData.showable] using h1) (fin s.heap (s.toks+1) s.toks fun _ _ e=>e)
  | str x t=>exact P.repr_of_str (fin s.heap (s.toks+1) s.toks fun _ _ e=>e) (by simpa only [PyData.shown] using h4)
  | list a b c e=>exact repr_of_reads' (.list a b c e) h1 hsm hg hdep (fun _ _ e=>e) (fun h' t tk hk=>fin h' tk t hk) h4
  | tuple a b c e=>exact repr_of_reads' (.tuple a b c e) h1 hsm hg hdep (fun _ _ e=>e) (fun h' t tk hk=>fin h' tk t hk) h4
  | dict a b c e f=>exact repr_of_reads' (.dict a b c e f) h1 hsm hg hdep (fun _ _ e=>e) (fun h' t tk hk=>fin h' tk t hk) h4
end
end L2
end
section
namespace L2
open PySem PyProof.Rows
section
variable {prog:Program} {w:World} {A:Around} {E:Value→Shared→Prop} {s:Shared}
set_option maxHeartbeats 8000000 in
theorem zd1 {ns:List Int} {Q:Value→Shared→Prop} (hh:A.handled=none) (hl:s.heap.IsTuple l items) (hi:IntsAre items.toList ns) (hb:items.size+1<scanBound)
    (h:∀(h':Heap) (tk:Nat),SetG w prog h' s.heap.objs.size (fun k'=>(firstMet (fun i=>ns.getD i 0) items.size).any (·==k')) (firstMet (fun i=>ns.getD i 0) items.size).length→
      (∀b o,s.heap.get? b=some o→h'.get? b=some o)→Q (.ref s.heap.objs.size) { s with heap:=h',toks:=tk }) :
    wpAny (model prog w) A (call (.type "set") [.ref l]) Q E s:=by
  obtain ⟨c,tl,hmro⟩:=F.called_set.mro
  have hmade:=F.called_set.made
  have hsub:=F.called_set.sub
  refine wpAny_call (codeAny_of_tree ?_)
  show wpAny _ _ (callAny (.type "set") _) _ _ _
  refine wpAny_pure ⟨Code.quiet_builtin _ (by decide +kernel),codeAny_builtin F.entry_type_call ?_⟩
  rw [Around.under_plain (weight_type_call_type "set" [.ref l] []) rfl]
  have h1:=F.called_set.notType
  have h2:=F.called_set.canCreate
  have hct:=F.typeCall_set_1 (.ref l)
  repeat (any_goals (first|assumption|wp_step))
  refine codeAny_mono (zdI (.ref l) (E:=E) (Q₁:=fun obj s₁=>obj = .ref s.heap.objs.size∧s₁={ s with heap:=s.heap.push (zav w) }) ⟨rfl,rfl⟩) fun r s₁ hr=>?_
  cases r with
  | error e=>exact hr
  | ok fl =>
    cases fl with
    | ret obj =>
      obtain ⟨rfl,rfl⟩:=hr
      have hS:(s.heap.push (zav w)).get? s.heap.objs.size=some (zav w):=Heap.get?_push_size _ rfl
      have hT:Shared.TypeIs { s with heap:=s.heap.push (zav w) } (.ref s.heap.objs.size) "set":=⟨_,hS,rfl⟩
      have hli:=F.called_set.init.lookup
      have hbi:=F.called_set.init.bind (.ref s.heap.objs.size)
      repeat (any_goals (first|assumption|wp_step))
      refine codeAny_mono (codeAny_call_builtin (R:=wants (fun r s₂=>r = .none∧Ex2 fun h' tk=>s₂={ s with heap:=h',toks:=tk }∧
          SetG w prog h' s.heap.objs.size (fun k'=>(firstMet (fun i=>ns.getD i 0) items.size).any (·==k')) (firstMet (fun i=>ns.getD i 0) items.size).length∧
          (∀b o,s.heap.get? b=some o→h'.get? b=some o)) E) F.called_set.init.plain F.entry_set_init (check_set_init_1 hT ?_)) fun r₂ s₂ hr₂=>?_
      · obtain ⟨ol,hol,hcl,nl,hdl⟩:=hl
        obtain ⟨ocls,odict,odata,oslots⟩:=ol
        simp only at hcl hdl
        subst hcl;subst hdl
        have hol':(s.heap.push (zav w)).get? l=some { cls:=.type "tuple",dict:=odict,data:=.seq items nl,slots:=oslots }:=Heap.get?_push_of_some _ hol
        have hsls:=F.sub_tuple_set
        have hslf:=F.sub_tuple_frozenset
        have hne:(Value.type "tuple"==Value.type "dict")=false:=by decide
        have hl1:(s.heap.push (zav w)).IsTuple l items:=⟨_,hol',rfl,nl,rfl⟩
        unfold Builtin.«set.__init__» noKeywords Builtin.Frozenset.updateFrom
        generalize hPI:pyIter=PI
        wp_walk
        subst hPI
        refine wpAny_pyIter_tuple hl1 ?_
        refine wpAny_bind (wpAny_runValue ?_)
        have hlS:l<s.heap.objs.size:=Heap.lt_size hol
        have hneI:l≠(s.heap.push (zav w)).objs.size:=by rw [Heap.size_push];exact Nat.ne_of_lt (Nat.lt_succ_of_lt hlS)
        have hSf:s.heap.objs.size∉[(s.heap.push (zav w)).objs.size,l]:=by
          rw [Heap.size_push];simp only [List.mem_cons,List.not_mem_nil,or_false,not_or]
          exact ⟨Nat.ne_of_lt (Nat.lt_succ_self _),Nat.ne_of_gt hlS⟩
        refine zga ((Walks.tuple (by simp [hh]) _ l hneI items).toS) s.heap.objs.size hSf (fun i=>ns.getD i 0) (fun i v hv=>IntsAre.int_at hi i v (by rw [Array.getElem?_toList];exact hv)) hb (items.size-0) 0 _ (by lia) (Nat.zero_le _)
          ⟨⟨_,Heap.get?_push_size _ rfl,rfl,rfl⟩,(hl1.push _)⟩ ((zd6 (Heap.get?_push_of_some _ hS)).congr (fun _=>rfl) rfl) fun s' hm hS'=>?_
        obtain ⟨h',g',d',tk',os'⟩:=s'
        obtain rfl:g'=s.gens:=hm.gens
        obtain rfl:d'=s.drawn:=hm.drawn
        obtain rfl:os'=s.os:=hm.os
        show wpAny _ _ _ _ _ _
        refine wpAny_pure ?_
        show wpAny _ _ (ret Value.none) _ _ _
        refine wpAny_pure ⟨rfl,h',tk',rfl,hS',fun b o e=>?_⟩
        have hb:=Heap.lt_size e
        refine hm.heap b o ?_ (Heap.get?_push_of_some _ (Heap.get?_push_of_some _ e))
        simp only [List.mem_cons,List.not_mem_nil,or_false,not_or]
        rw [Heap.size_push]
        exact ⟨Nat.ne_of_lt hb,Nat.ne_of_lt (Nat.lt_succ_of_lt hb)⟩
      · cases r₂ with
        | error e=>exact hr₂
        | ok fl₂ =>
          cases fl₂ with
          | ret r =>
            obtain ⟨rfl,h',tk,rfl,hS',hk'⟩:=hr₂
            repeat (any_goals (first|assumption|wp_step))
            exact h _ _ hS' hk'
          | _=>exact hr₂.elim
    | _=>exact hr.elim
end
section
variable {X:Cx}
noncomputable def yha (K:PySem.W.Frag):List V→Hp→VK→Prop:=fun vs H Q=>Ex2 fun (x:V) (z:Str)=>vs=[x]∧((∃i:Int,x = .int i∧i.natAbs.log2<1920∧z=(PyData.int i).shown)∨(Ex2 fun (a:Addr) (d:PyData)=>x = .ref a∧RdN K H 10 (.ref a) d∧DOk d (2^20)∧z=d.shown))∧Q (.str z) H
theorem yeP (hg:X.A.guards=some []) (hu:X.A.units+64<cLine):zaY X (.type "str") (yha X.K):=by
  intro pins s σ H vs us Q I r h
  obtain ⟨x,z,rfl,hx,q⟩:=h
  obtain ⟨u,rfl,rx⟩:=zcH r
  rcases hx with ⟨i,rfl,hi,rfl⟩ | ⟨a,d,rfl,hd,ok,rfl⟩
  · obtain ⟨t,rfl⟩:=rx
    exact P.str_of_int hi ⟨.str _,H,I.tok _,⟨_,rfl⟩,q⟩
  · cases rx
    have R:=ycV I 10 (.ref a) d (.ref a) hd rfl
    refine str_of_reads R ok.sh (PyData.noDict_hsm ok.nd) hg (by have:=ok.dp;lia) (fun _ _ e=>e) (fun h' u tk hk=>?_) (PyData.shown_fits (B:=8) (by decide) (by decide) ok.sl ok.we)
    exact ⟨.str _,H,I.kept (fun b o e=>hk b o e),⟨u,rfl⟩,q⟩
end
end L2
end
section
set_option exponentiation.threshold 1100
namespace L2
open PySem PyProof.Rows
structure DkA (d:PyData) (W D:Nat):Prop where
  sh:d.showable=true
  dp:d.depth≤D
  sl:d.leavesShort 200=true
  we:d.weight≤W
theorem DkA.mono {W D W' D':Nat} (h:DkA d W D) (h1:W≤W') (h2:D≤D'):DkA d W' D':=⟨h.sh,Nat.le_trans h.dp h2,h.sl,Nat.le_trans h.we h1⟩
theorem yfd {W D:Nat}:∀ {ds:List PyData},(∀d∈ds,DkA d W D)→PyData.showableAll ds=true∧PyData.depthAll ds≤D∧PyData.leavesShortAll 200 ds=true∧PyData.weightAll ds≤(W+1)*ds.length
  | [],_=>⟨rfl,Nat.zero_le _,rfl,Nat.zero_le _⟩
  | d::ds,h=>by
    have h1:=h d (List.mem_cons_self ..)
    obtain ⟨i1,i2,i3,i4⟩:=yfd fun y hy=>h y (List.mem_cons_of_mem _ hy)
    refine ⟨?_,?_,?_,?_⟩
    · show (d.showable&&PyData.showableAll ds)=true
      rw [h1.sh,i1];rfl
    · show max d.depth (PyData.depthAll ds)≤D
      have:=h1.dp
      lia
    · show (PyData.leavesShort 200 d&&PyData.leavesShortAll 200 ds)=true
      rw [h1.sl,i3];rfl
    · show d.weight+1+PyData.weightAll ds≤(W+1)*(ds.length+1)
      have:=h1.we
      rw [Nat.mul_succ]
      lia
theorem ycU {W D:Nat} {ds:List PyData} (h:∀d∈ds,DkA d W D):DkA (.tuple ds) ((W+1)*ds.length) (D+1):=by
  obtain ⟨i1,i2,i3,i4⟩:=yfd h
  exact ⟨i1,Nat.succ_le_succ i2,i3,i4⟩
theorem yfk {W D:Nat} {ds:List PyData} (h:∀d∈ds,DkA d W D):DkA (.list ds) ((W+1)*ds.length) (D+1):=by
  obtain ⟨i1,i2,i3,i4⟩:=yfd h
  exact ⟨i1,Nat.succ_le_succ i2,i3,i4⟩
theorem yb4 {i:Int} (h:i.natAbs<2^400):DkA (.int i) 400 0:=by
  have lg:i.natAbs.log2<400:=by
    rcases Nat.eq_zero_or_pos i.natAbs with e|e
    · rw [e];decide
    · exact (Nat.log2_lt (Nat.ne_of_gt e)).mpr h
  refine ⟨?_,Nat.le_refl _,?_,?_⟩
  · show decide (i.natAbs.log2<1920)=true
    exact decide_eq_true (by lia)
  · show decide ((PyData.shown (.int i)).length≤200)=true
    refine decide_eq_true ?_
    have e:=int_text_length_le10 (k:=199) (a:=i) (by decide) (Nat.lt_trans h (by decide))
    show (Str.ofString (toString i)).length≤200
    rw [PySem.ofString_length];exact e
  · show (if i==0 then 0 else i.natAbs.log2+1)≤400
    split <;> lia
theorem zep {i:Int} (h:i.natAbs<2^400):(PyData.int i).shown.length≤200:=of_decide_eq_true (yb4 h).sl
theorem yg7:DkA .none 0 0:=⟨rfl,Nat.le_refl _,by decide,Nat.le_refl _⟩
theorem zho (b:Bool):DkA (.bool b) 0 0:=⟨rfl,Nat.le_refl _,by cases b <;> decide,Nat.le_refl _⟩
theorem yg2 {W:Nat} (h:z.length≤W) (hc:∀c∈z.cps.toList,c<16^8):DkA (.str z) W 0:=⟨rfl,Nat.le_refl _,by
  show (z.cps.toList.all fun c=>decide (c<16^8))=true
  exact List.all_eq_true.mpr fun c h=>decide_eq_true (hc c h),h⟩
theorem zfY:DkA (.dict []) 0 1:=⟨rfl,by decide,rfl,Nat.le_refl _⟩
theorem yfT {W D:Nat} (h:DkA e W D):DkA (.dict [(.int 0,e)]) (W+2) (D+1):=by
  refine ⟨?_,?_,?_,?_⟩
  · show (decide ((0:Int).natAbs.log2<1920)&&e.showable&&true)=true
    rw [h.sh];rfl
  · show max (max 0 e.depth) 0+1≤D+1
    have:=h.dp
    lia
  · show (PyData.leavesShort 200 (.int 0)&&PyData.leavesShort 200 e&&true)=true
    rw [h.sl];decide
  · show 0+e.weight+2+0≤W+2
    have:=h.we
    lia
theorem DkA.len (h:DkA d 40000 40):d.shown.length≤sizeLine:=by
  have:=PyData.shown_le 200 (by decide) d h.sl
  have:=h.we
  rw [sizeLine_eq]
  lia
theorem RdN.rdL {K:PySem.W.Frag}:∀ {n:Nat} {v:V} {d:PyData},RdN K H n v d→RdL K H n v d
  | 0,_,_,h=>h.elim
  | n+1,v,d,h=>by
    rcases h with ⟨i,h⟩ | ⟨a,xs,ds,e1,e2,ha,hl,hx⟩
    · exact .inr (.inr (.inl ⟨i,h⟩))
    · exact .inr (.inr (.inr (.inr (.inl ⟨a,xs,ds,e1,e2,ha,hl,fun i x e h1 h2=>(hx i x e h1 h2).rdL⟩))))
theorem ybN:∀ {ds:List PyData},(∀d∈ds,d.hasDict=false)→PyData.hasDictAll ds=false
  | [],_=>rfl
  | d::ds,h=>by
    show (d.hasDict||PyData.hasDictAll ds)=false
    rw [h d (List.mem_cons_self ..),ybN fun y hy=>h y (List.mem_cons_of_mem _ hy)];rfl
theorem ydS {α β:Type} {xs:List α} {ds:List β} (hl:xs.length=ds.length) {d:β} (h:d∈ds):Ex2 fun (i:Nat) (x:α)=>xs[i]?=some x∧ds[i]?=some d:=by
  obtain ⟨i,hi,e⟩:=List.mem_iff_getElem.mp h
  exact ⟨i,xs[i],List.getElem?_eq_getElem (by lia),by rw [List.getElem?_eq_getElem hi,e]⟩
theorem RdN.nd {K:PySem.W.Frag}:∀ {n:Nat} {v:V} {d:PyData},RdN K H n v d→d.hasDict=false
  | 0,_,_,h=>h.elim
  | n+1,v,d,h=>by
    rcases h with ⟨i,_,rfl⟩ | ⟨a,xs,ds,_,rfl,_,hl,hx⟩
    · rfl
    · exact ybN fun e he=>by
        obtain ⟨i,x,h1,h2⟩:=ydS hl he
        exact (hx i x e h1 h2).nd
def Rd1 (K:PySem.W.Frag) (H:Hp) (v:V) (d:PyData):Prop:=∃n:Nat,(RdL K H n v d∧d.hasDict=false)∨RdD K H n v d
theorem RdN.one {K:PySem.W.Frag} {n:Nat} (h:RdN K H n v d):Rd1 K H v d:=⟨n,.inl ⟨h.rdL,h.nd⟩⟩
theorem yc7 {K:PySem.W.Frag} {n:Nat} (i:Int):RdN K H (n+1) (.int i) (.int i):=.inl ⟨i,rfl,rfl⟩
theorem Rd1.vint {K:PySem.W.Frag} {k:Int} (h:Rd1 K H v (.int k)):v = .int k:=by
  obtain ⟨n,h⟩:=h
  rcases n with _|n
  · rcases h with ⟨h,_⟩|h <;> exact h.elim
  rcases h with ⟨h,_⟩|h
  · rcases h with ⟨_,e⟩ | ⟨b,_,e⟩ | ⟨i,e1,e⟩ | ⟨x,_,e⟩ | ⟨a,xs,ds,_,e,_⟩ | ⟨a,xs,ds,_,e,_⟩
    · cases e
    · cases e
    · cases e;exact e1
    · cases e
    · cases e
    · cases e
  · rcases h with ⟨i,e1,e⟩ | ⟨a,xs,ds,_,e,_⟩ | ⟨a,k,x,e',m,_,e,_⟩ | ⟨a,_,e,_⟩
    · cases e;exact e1
    · cases e
    · cases e
    · cases e
theorem Rd1.tupM {K:PySem.W.Frag} (ha:SqT K H a ys) (hv:Rd1 K H v d) (f:V→PyData) (hf:∀y∈ys,(∃i:Int,y = .int i∧f y = .int i)∨(y=v∧f y=d)):Rd1 K H (.ref a) (.tuple (ys.map f)):=by
  have get:∀ {i:Nat} {x:V} {e:PyData},ys[i]?=some x→(ys.map f)[i]?=some e→e=f x∧x∈ys:=fun {i x e} h1 h2=>by
    rw [List.getElem?_map,h1] at h2
    cases h2
    exact ⟨rfl,List.mem_of_getElem? h1⟩
  obtain ⟨n,h⟩:=hv
  rcases n with _|n
  · rcases h with ⟨h,_⟩|h <;> exact h.elim
  rcases h with ⟨h,nd⟩|h
  · refine ⟨n+2,.inl ⟨.inr (.inr (.inr (.inr (.inl ⟨a,ys,_,rfl,rfl,ha,(List.length_map _).symm,fun i x e h1 h2=>?_⟩)))),ybN fun e he=>?_⟩⟩
    · obtain ⟨rfl,hm⟩:=get h1 h2
      rcases hf x hm with ⟨i,rfl,e⟩ | ⟨rfl,e⟩
      · rw [e];exact .inr (.inr (.inl ⟨i,rfl,rfl⟩))
      · rw [e];exact h
    · obtain ⟨x,hm,rfl⟩:=List.mem_map.mp he
      rcases hf x hm with ⟨i,_,e⟩ | ⟨_,e⟩
      · rw [e];rfl
      · rw [e];exact nd
  · refine ⟨n+2,.inr (.inr (.inl ⟨a,ys,_,rfl,rfl,ha,(List.length_map _).symm,fun i x e h1 h2=>?_⟩))⟩
    obtain ⟨rfl,hm⟩:=get h1 h2
    rcases hf x hm with ⟨i,rfl,e⟩ | ⟨rfl,e⟩
    · rw [e];exact .inl ⟨i,rfl,rfl⟩
    · rw [e];exact h
theorem zgA (i:Int) (c:Nat) (hc:c∈(PyData.int i).shown.cps.toList):c<16^8:=Classical.byContradiction fun h=>by
  have h2:(57:Nat)<16^8:=by decide
  exact zcw c i ⟨fun e=>by subst e;exact h (by decide),.inr (by lia)⟩ hc
theorem RdN.cps {K:PySem.W.Frag}:∀ {n:Nat} {v:V} {d:PyData},RdN K H n v d→∀c∈d.shown.cps.toList,c<16^8
  | 0,_,_,h=>h.elim
  | n+1,v,d,h=>by
    intro c hc
    rcases h with ⟨i,_,rfl⟩ | ⟨a,xs,ds,_,rfl,_,hl,hx⟩
    · exact zgA i c hc
    · rw [yaG,yaP] at hc
      rcases List.mem_cons.mp hc with rfl|hc
      · decide
      rcases List.mem_append.mp hc with hc|hc
      · rcases zgl hc with ⟨x,hx',hc⟩|rfl|rfl
        · rw [List.map_map] at hx'
          obtain ⟨e,he,rfl⟩:=List.mem_map.mp hx'
          obtain ⟨i,x,h1,h2⟩:=ydS hl he
          exact (hx i x e h1 h2).cps c hc
        · decide
        · decide
      · split at hc <;> simp at hc
        · rcases hc with rfl|rfl <;> decide
        · subst hc;decide
end L2
end
section
namespace L2
open PySem PySem.Spec PyProof.Rows
section
variable {X:Cx} {pins:List (Addr×Obj)} {σ:St} {H H':Hp} {s:Shared}
noncomputable def zhu (K:PySem.W.Frag):R2:=fun x y H Q=>Ex3 fun a b xs=>x = .ref a∧y = .ref b∧SqT K H a xs∧SqT K H b []∧Q (.bl xs.isEmpty) H
theorem ye1 (hu:X.A.units<cLine):OpR X (compareOp .Eq) (zhu X.K):=by
  intro pins s σ H x y v u Q I rx ry h
  obtain ⟨a,b,xs,rfl,rfl,ha,hb,q⟩:=h
  cases rx;cases ry
  obtain ⟨us,r1,p1,z1⟩:=I.tuple ha
  obtain ⟨vs,r2,p2,z2⟩:=I.tuple hb
  cases r2
  refine SeqAt.RcAt.tuples (e:=fun _=>true) p1 p2 hu (fun j _ h2=>absurd h2 (by simp)) _ _ _ _ ?_
  cases xs with
  | nil=>cases r1;exact ⟨.bl true,H,I,rfl,q⟩
  | cons x xs=>cases r1;exact ⟨.bl false,H,I,rfl,q⟩
end
end L2
end
section
namespace L2
open PySem PySem.Spec PyProof.Rows
end L2
end
section
namespace L2
open PySem PySem.W PySem.Calls PyProof.Rows
local macro_rules | `(tactic| ac_rfl) => `(tactic| first | omega | (dsimp only; omega))
def ygp:Bool→Keyed→Array Keyed→Nat→Nat→Nat→StateT SortSt Sem (Option Nat):=sortPriv% PySem.Builtin.gallop
def zfM:Array Keyed→Array Keyed→StateT SortSt Sem (Array Keyed):=sortPriv% PySem.Builtin.mergeLo
def yfJ:Array Keyed→Array Keyed→StateT SortSt Sem (Array Keyed):=sortPriv% PySem.Builtin.mergeHi
section
variable {prog:Program} {w:World} {A:Around} {E:Value→Shared→Prop} {s:Shared} {κ:SortKind}
theorem S_if {α σ:Type} {c:Prop} [Decidable c] {m₁ m₂:StateT σ Sem α} {Q:α→σ→Prop} {st:σ} (h₁:c→wpS M A E s m₁ Q st) (h₂:¬ c→wpS M A E s m₂ Q st):wpS M A E s (if c then m₁ else m₂) Q st:=by
  split
  · exact h₁ ‹_›
  · exact h₂ ‹_›
theorem ybD {β σ:Type} {M:Model} {a b:Nat} {f:Nat→β→StateT σ Sem (ForInStep β)} (I:Nat→β→σ→Prop) (R:β→σ→Prop) {Q:β→σ→Prop} {c:β} {st:σ} (h:I a c st) (hend:∀c st,I (max a b) c st→R c st) (hq:∀c st,R c st→Q c st)
    (hstep:∀i c st,a≤i→i<b→I i c st→wpS M A E s (f i c) (fun r st'=>match r with | .done c'=>R c' st' | .yield c'=>I (i+1) c' st') st):wpS M A E s (forIn [a:b] c f) Q st:=wpS_mono (wpS_forRange (Q:=R) I hstep hend h) hq
noncomputable def AnsL (prog:Program) (w:World) (A:Around) (s:Shared) (κ:SortKind) (g:Keyed→Prop) (lt:Keyed→Keyed→Bool):Prop:=∀(x y:Keyed) (C:Bool→Shared→Prop),g x→g y→C (lt x y) s→wpAny (model prog w) A (keyLt' κ x.1 y.1) C (fun _ _=>False) s
structure Ordr (lt:Keyed→Keyed→Bool):Prop where
  asym:∀ {x y},lt x y=true→lt y x=false
  trans:∀ {x y z},lt y x=false→lt z y=false→lt z x=false
variable {g:Keyed→Prop} {lt:Keyed→Keyed→Bool} (hA:AnsL prog w A s κ g lt)
include hA
theorem S_lt {st:SortSt} {x y:Keyed} {Q:Option Bool→SortSt→Prop} (hk:kindOf st=κ) (gx:g x) (gy:g y) (h:Q (some (lt x y)) st):wpS (model prog w) A E s (lt' x y) Q st:=by
  rw [lt'_eq]
  refine wpS_bind (wpS_get ?_)
  rw [hk]
  refine wpS_bind (wpS_lift (wpAny_attempt (wpAny_mono (hA x y (fun b s'=>s'=s∧b=lt x y) gx gy ⟨rfl,rfl⟩) (fun b s' hb=>?_) fun _ _ e=>e.elim)))
  obtain ⟨rfl,rfl⟩:=hb
  exact ⟨rfl,wpS_pure h⟩
omit hA in
theorem yaw {st:SortSt} {a:Array Keyed} {i:Nat} {Q:Keyed→SortSt→Prop} (hi:i<a.size) (h:Q a[i] st):wpS (model prog w) A E s (elem' a i) Q st:=by
  rw [elem'_eq,Array.getElem?_eq_getElem hi]
  exact wpS_pure h
theorem yg8 {st:SortSt} {i j:Nat} {Q:Option Bool→SortSt→Prop} (hk:kindOf st=κ) (hi:i<(arrOf st).size) (hj:j<(arrOf st).size) (gs:∀x∈(arrOf st).toList,g x) (h:Q (some (lt (arrOf st)[i] (arrOf st)[j])) st):wpS (model prog w) A E s (ltAt' i j) Q st:=by
  rw [ltAt'_eq]
  refine wpS_bind (wpS_get ?_)
  refine wpS_bind (yaw hi (wpS_bind (yaw hj ?_)))
  exact S_lt hA hk (gs _ (by simp)) (gs _ (by simp)) h
omit hA in
theorem gd {a:Array Keyed} (gs:∀x∈a.toList,g x) {i:Nat} (hi:i<a.size):g a[i]:=gs _ (by simp)
omit hA in
def av (a:Array Keyed) (i:Nat):Keyed:=a.getD i (Value.none,Value.none)
omit hA in
theorem ya8 {a:Array Keyed} {i:Nat} (h:i<a.size):a[i]=av a i:=by simp [av,Array.getD,h]
noncomputable def bB (lt:Keyed→Keyed→Bool) (left:Bool) (key:Keyed) (a:Array Keyed) (j:Nat):Bool:=if left=true then lt (av a j) key else !lt key (av a j)
noncomputable def beyG (left:Bool) (key:Keyed) (a:Array Keyed) (j:Nat):StateT SortSt Sem (Option Bool):=elem' a j >>= fun x=>if left=true then lt' x key else lt' key x >>= fun r=>pure (r.map fun b=>!b)
theorem yfW {st:SortSt} {left:Bool} {key:Keyed} {a:Array Keyed} {j:Nat} {Q:Option Bool→SortSt→Prop} (hk:kindOf st=κ) (gk:g key) (gs:∀x∈a.toList,g x) (hj:j<a.size) (h:Q (some (bB lt left key a j)) st):wpS (model prog w) A E s (beyG left key a j) Q st:=by
  refine wpS_bind (yaw hj ?_)
  unfold bB at h
  rw [←ya8 hj] at h
  cases left
  · exact wpS_bind (S_lt hA hk gk (gd gs hj) (wpS_pure h))
  · exact S_lt hA hk (gd gs hj) gk h
theorem ybx {st:SortSt} {left:Bool} {key:Keyed} {a:Array Keyed} {base n hint:Nat} {Q:Option Nat→SortSt→Prop} (hk:kindOf st=κ) (gk:g key) (gs:∀x∈a.toList,g x) (hb:base+n≤a.size) (hh:hint<n) (hM:∀i j,i≤j→j<n→bB lt left key a (base+j)=true→bB lt left key a (base+i)=true)
    (h:∀k,k≤n→(∀i,i<k→bB lt left key a (base+i)=true)→(∀i,k≤i→i<n→bB lt left key a (base+i)=false)→Q (some k) st):wpS (model prog w) A E s (ygp left key a base n hint) Q st:=by
  have hF:∀i j,i≤j→j<n→bB lt left key a (base+i)=false→bB lt left key a (base+j)=false:=fun i j h1 h2 h3=>by
    cases e:bB lt left key a (base+j)
    · rfl
    · rw [hM i j h1 h2 e] at h3;cases h3
  have fin:∀(lo hi:Nat),hi≤n→(∀i,i<lo→i<n→bB lt left key a (base+i)=true)→(∀i,hi≤i→i<n→bB lt left key a (base+i)=false)→wpS (model prog w) A E s (forIn [:n] ((none,lo,hi):Option (Option Nat)×Nat×Nat) fun _ z=>if z.2.1≥z.2.2 then pure (ForInStep.done (none,z.2.1,z.2.2)) else beyG left key a (base+(z.2.1+(z.2.2-z.2.1)/2)) >>= fun r=>match r with
      | some c=>if c=true then pure (ForInStep.yield (none,z.2.1+(z.2.2-z.2.1)/2+1,z.2.2)) else pure (ForInStep.yield (none,z.2.1,z.2.1+(z.2.2-z.2.1)/2))
      | _=>pure (ForInStep.done (some none,z.2.1,z.2.2))) (fun z st'=>st'=st∧z.1=none∧z.2.2≤n∧(∀i,i<z.2.2→bB lt left key a (base+i)=true)∧(∀i,z.2.2≤i→i<n→bB lt left key a (base+i)=false)) st:=by
    intro lo hi h1 h2 h3
    refine ybD (fun c (z:Option (Option Nat)×Nat×Nat) st'=>st'=st∧z.1=none∧z.2.2≤n∧z.2.2+c≤z.2.1+n∧(∀i,i<z.2.1→i<n→bB lt left key a (base+i)=true)∧(∀i,z.2.2≤i→i<n→bB lt left key a (base+i)=false)) (fun (z:Option (Option Nat)×Nat×Nat) st'=>st'=st∧z.1=none∧z.2.2≤n∧z.2.2≤z.2.1∧(∀i,i<z.2.1→i<n→bB lt left key a (base+i)=true)∧(∀i,z.2.2≤i→i<n→bB lt left key a (base+i)=false)) ⟨rfl,rfl,h1,(by ac_rfl),h2,h3⟩ ?_ ?_ ?_
    · rintro ⟨r,lo,hi⟩ st' ⟨h1,h2,h3,h4,h5⟩
      exact ⟨h1,h2,h3,(by ac_rfl),h5⟩
    · rintro ⟨r,lo,hi⟩ st' ⟨h1,h2,h3,h4,h5,h6⟩
      dsimp only at h3 h4
      exact ⟨h1,h2,h3,fun i hj=>h5 i (Nat.lt_of_lt_of_le hj h4) (Nat.lt_of_lt_of_le hj h3),h6⟩
    rintro c ⟨r,lo,hi⟩ st' _ _ ⟨rfl,e,h1,h2,h3,h4⟩
    dsimp only at e h1 h2 h3 h4
    refine S_if (fun cc=>wpS_pure ⟨rfl,rfl,h1,cc,h3,h4⟩) fun cc=>?_
    dsimp only at cc
    refine wpS_bind (yfW hA hk gk gs (by ac_rfl) ?_)
    cases hc:bB lt left key a (base+(lo+(hi-lo)/2))
    · exact wpS_pure ⟨rfl,rfl,(by ac_rfl),(by ac_rfl),h3,fun i i1 i2=>hF _ _ i1 i2 hc⟩
    · exact wpS_pure ⟨rfl,rfl,h1,(by ac_rfl),fun i i1 i2=>hM _ (lo+(hi-lo)/2) (by dsimp only at i1;omega) (by omega) hc,h4⟩
  refine wpS_bind ?_
  refine yfW (j:=base+hint) hA hk gk gs (by omega) ?_
  cases hc:bB lt left key a (base+hint)
  · refine wpS_bind (ybD (fun c z st'=>st'=st∧z.1=none∧c+1≤z.2.2∧bB lt left key a (base+(hint-z.2.1))=false) (fun z st'=>st'=st∧z.1=none∧bB lt left key a (base+(hint-z.2.1))=false∧(hint+1≤z.2.2∨bB lt left key a (base+(hint-z.2.2))=true)) ⟨rfl,rfl,Nat.le_refl _,hc⟩ ?_ ?_ ?_)
    · rintro ⟨r,lo,hi⟩ st' ⟨h1,h2,h3,h4⟩
      exact ⟨h1,h2,h4,.inl (by ac_rfl)⟩
    · rintro ⟨r,lo,hi⟩ st' ⟨rfl,e,h4,h5⟩
      dsimp only at e h4 h5
      subst e
      refine wpS_bind (wpS_mono (fin _ _ (by ac_rfl) (fun i i1 i2=>?_) fun i i1 i2=>hF _ _ i1 i2 h4) ?_)
      · dsimp only at i1
        rcases h5 with h5|h5
        · omega
        · exact hM i (hint-hi) (by omega) (by omega) h5
      rintro ⟨r,lo',hi'⟩ st'' ⟨rfl,e,h1,h2,h3⟩
      dsimp only at e h1
      subst e
      exact wpS_pure (h _ h1 h2 h3)
    · rintro i ⟨r,lo,hi⟩ st' _ _ ⟨rfl,e,h1,h2⟩
      dsimp only at e h1 h2
      refine S_if (fun cc=>wpS_pure ⟨rfl,rfl,h2,.inl cc⟩) fun cc=>?_
      dsimp only at cc
      refine wpS_bind (yfW (j:=base+(hint-hi)) hA hk gk gs (by omega) ?_)
      cases hc2:bB lt left key a (base+(hint-hi))
      · exact wpS_pure ⟨rfl,rfl,(by ac_rfl),hc2⟩
      · exact wpS_pure ⟨rfl,rfl,h2,.inr hc2⟩
  · refine wpS_bind (ybD (fun c z st'=>st'=st∧z.1=none∧c+1≤z.2.2∧z.2.1<n-hint∧bB lt left key a (base+(hint+z.2.1))=true) (fun z st'=>st'=st∧z.1=none∧z.2.1<n-hint∧bB lt left key a (base+(hint+z.2.1))=true∧(n-hint≤z.2.2∨(hint+z.2.2<n∧bB lt left key a (base+(hint+z.2.2))=false))) ⟨rfl,rfl,Nat.le_refl _,(by ac_rfl),hc⟩ ?_ ?_ ?_)
    · rintro ⟨r,lo,hi⟩ st' ⟨h1,h2,h3,h4,h5⟩
      exact ⟨h1,h2,h4,h5,.inl (by ac_rfl)⟩
    · rintro ⟨r,lo,hi⟩ st' ⟨rfl,e,h3,h4,h5⟩
      dsimp only at e h3 h4 h5
      subst e
      refine wpS_bind (wpS_mono (fin _ _ (by ac_rfl) (fun i i1 i2=>hM i (hint+lo) (by dsimp only at i1;omega) (by omega) h4) fun i i1 i2=>?_) ?_)
      · dsimp only at i1
        rcases h5 with h5 | ⟨h5,h6⟩
        · omega
        · exact hF (hint+hi) i (by omega) i2 h6
      rintro ⟨r,lo',hi'⟩ st'' ⟨rfl,e,h1,h2,h3⟩
      dsimp only at e h1
      subst e
      exact wpS_pure (h _ h1 h2 h3)
    · rintro i ⟨r,lo,hi⟩ st' _ _ ⟨rfl,e,h1,h2,h3⟩
      dsimp only at e h1 h2 h3
      refine S_if (fun cc=>wpS_pure ⟨rfl,rfl,h2,h3,.inl cc⟩) fun cc=>?_
      dsimp only at cc
      refine wpS_bind (yfW (j:=base+(hint+hi)) hA hk gk gs (by omega) ?_)
      cases hc2:bB lt left key a (base+(hint+hi))
      · exact wpS_pure ⟨rfl,rfl,h2,h3,.inr ⟨(by ac_rfl),hc2⟩⟩
      · exact wpS_pure ⟨rfl,rfl,(by ac_rfl),(by ac_rfl),hc2⟩
end
end L2
end
section
namespace L2
open PySem PySem.W PySem.Calls PyProof.Rows
local macro_rules | `(tactic| ac_rfl) => `(tactic| first | omega | (dsimp only; omega))
theorem nbeq {x y:Nat} (h:¬ (x==y)=true):x≠y:=fun e=>h (by rw [e];exact beq_self_eq_true _)
theorem pm1 {α:Type} (o U A D:List α):(o++U++A++D).Perm (o++A++(U++D)):=by
  rw [List.append_assoc,List.append_assoc,List.append_assoc]
  refine List.Perm.append_left o ?_
  rw [←List.append_assoc,←List.append_assoc]
  exact List.Perm.append_right D List.perm_append_comm
theorem ydC {α:Type} {a:Array α} {i:Nat} (h:i<a.size):a.toList.drop i=a[i]::a.toList.drop (i+1):=by
  rw [List.drop_eq_getElem_cons (by simpa using h)];rfl
theorem zee {α:Type} (a:Array α) (i k:Nat):a.toList.drop i=(a.extract i (i+k)).toList++a.toList.drop (i+k):=by
  rw [Array.toList_extract,List.extract_eq_take_drop,Nat.add_sub_cancel_left,←List.drop_drop,List.take_append_drop]
theorem zbm {α:Type} (a:Array α) (i:Nat):(a.extract i a.size).toList=a.toList.drop i:=by
  rw [Array.toList_extract,List.extract_eq_take_drop,List.take_of_length_le (by simp)]
section
variable {a b o:Array Keyed} {i j:Nat} {X:List Keyed}
theorem mj_b (h:(o.toList++a.toList.drop i++b.toList.drop j).Perm X) (hj:j<b.size):((o.push b[j]).toList++a.toList.drop i++b.toList.drop (j+1)).Perm X:=by
  rw [ydC hj] at h
  rw [Array.toList_push]
  exact (pm1 _ [b[j]] _ _).trans h
theorem mj_a (h:(o.toList++a.toList.drop i++b.toList.drop j).Perm X) (hi:i<a.size):((o.push a[i]).toList++a.toList.drop (i+1)++b.toList.drop j).Perm X:=by
  rw [ydC hi] at h
  rw [Array.toList_push]
  simpa using h
theorem yhp (k:Nat) (h:(o.toList++a.toList.drop i++b.toList.drop j).Perm X):((o++b.extract j (j+k)).toList++a.toList.drop i++b.toList.drop (j+k)).Perm X:=by
  rw [zee b j k] at h
  rw [Array.toList_append]
  exact (pm1 _ _ _ _).trans h
theorem zhq (k:Nat) (h:(o.toList++a.toList.drop i++b.toList.drop j).Perm X):((o++a.extract i (i+k)).toList++a.toList.drop (i+k)++b.toList.drop j).Perm X:=by
  rw [zee a i k] at h
  rw [Array.toList_append]
  simpa using h
theorem zgy (h:(o.toList++a.toList.drop i++b.toList.drop j).Perm X):(o++a.extract i a.size++b.extract j b.size).toList.Perm X:=by
  rw [Array.toList_append,Array.toList_append,zbm,zbm];exact h
theorem ygs (h:(o.toList++a.toList.drop i++b.toList.drop j).Perm X):(o++b.extract j b.size++a.extract i a.size).toList.Perm X:=by
  rw [Array.toList_append,Array.toList_append,zbm,zbm]
  refine List.Perm.trans ?_ h
  rw [List.append_assoc,List.append_assoc]
  exact List.Perm.append_left _ List.perm_append_comm
end
noncomputable def Sm (st st':SortSt):Prop:=kindOf st'=kindOf st∧arrOf st'=arrOf st∧pendingOf st'=pendingOf st∧failedOf st'=failedOf st
def SrtL (lt:Keyed→Keyed→Bool) (l:List Keyed):Prop:=l.Pairwise fun x y=>lt y x=false
section
variable {lt:Keyed→Keyed→Bool} (hO:Ordr lt)
include hO
theorem Ordr.refl (x:Keyed):lt x x=false:=by
  cases e:lt x x
  · rfl
  · rw [hO.asym e] at e;cases e
theorem yb5 {l:Array Keyed} {i:Nat} {x:Keyed} (hs:SrtL lt l.toList) (hi:i<l.size) (h:lt l[i] x=false):∀y∈l.toList.drop i,lt y x=false:=fun y hy=>by
  have h2:(l.toList.drop i).Pairwise fun x y=>lt y x=false:=List.Pairwise.sublist (List.drop_sublist _ _) hs
  rw [ydC hi] at hy h2
  rcases List.mem_cons.mp hy with rfl|hy
  · exact h
  · exact hO.trans h (List.rel_of_pairwise_cons h2 hy)
omit hO in
theorem zf9 {l:Array Keyed} {i:Nat} (hs:SrtL lt l.toList) (hi:i<l.size):∀y∈l.toList.drop (i+1),lt y l[i]=false:=fun y hy=>by
  have h2:(l.toList.drop i).Pairwise fun x y=>lt y x=false:=List.Pairwise.sublist (List.drop_sublist _ _) hs
  rw [ydC hi] at h2
  exact List.rel_of_pairwise_cons h2 hy
theorem ydH {l:Array Keyed} (hs:SrtL lt l.toList) {i j:Nat} (h:i≤j) (hj:j<l.size):lt (av l j) (av l i)=false:=by
  rw [←ya8 hj,←ya8 (Nat.lt_of_le_of_lt h hj)]
  rcases Nat.lt_or_ge i j with c|c
  · exact List.pairwise_iff_getElem.mp hs i j (by rw [Array.length_toList];omega) (by rw [Array.length_toList];exact hj) c
  · cases Nat.le_antisymm h c
    exact hO.refl _
theorem zcV {left:Bool} {key:Keyed} {a:Array Keyed} {base n:Nat} (hs:∀i j,i≤j→j<n→lt (av a (base+j)) (av a (base+i))=false):∀i j,i≤j→j<n→bB lt left key a (base+j)=true→bB lt left key a (base+i)=true:=fun i j h1 h2 h3=>by
  have h4:=hs i j h1 h2
  unfold bB at h3 ⊢
  cases left
  · have h5:lt key (av a (base+j))=false:=by simpa using h3
    have:=hO.trans h4 h5
    simp [this]
  · have h5:lt (av a (base+j)) key=true:=by simpa using h3
    cases e:lt (av a (base+i)) key
    · rw [hO.trans e h4] at h5;cases h5
    · rfl
end
noncomputable def MS (lt:Keyed→Keyed→Bool) (a b o:Array Keyed) (i j:Nat):Prop:=SrtL lt o.toList∧(∀x∈o.toList,∀y∈a.toList.drop i,lt y x=false)∧∀x∈o.toList,∀y∈b.toList.drop j,lt y x=false
noncomputable def PM (lt:Keyed→Keyed→Bool) (a b o:Array Keyed) (i j:Nat):Prop:=(o.toList++a.toList.drop i++b.toList.drop j).Perm (a.toList++b.toList)∧MS lt a b o i j
def Fin2 (lt:Keyed→Keyed→Bool) (a b x:Array Keyed):Prop:=x.toList.Perm (a.toList++b.toList)∧SrtL lt x.toList
section
variable {lt:Keyed→Keyed→Bool} (hO:Ordr lt) {a b o:Array Keyed} {i j:Nat}
theorem zdz {l:Array Keyed} {i:Nat} {y:Keyed} (hi:i<l.size) (h:y∈l.toList.drop (i+1)):y∈l.toList.drop i:=by rw [ydC hi];exact List.mem_cons_of_mem _ h
theorem pb (h:PM lt a b o i j) (sb:SrtL lt b.toList) (hj:j<b.size) (c:∀y∈a.toList.drop i,lt y b[j]=false):PM lt a b (o.push b[j]) i (j+1):=by
  obtain ⟨p,h1,h2,h3⟩:=h
  refine ⟨mj_b p hj,?_,?_,?_⟩
  · rw [Array.toList_push]
    exact List.pairwise_append.mpr ⟨h1,List.pairwise_singleton _ _,fun x hx y hy=>by rw [List.mem_singleton.mp hy];exact h3 x hx _ (by rw [ydC hj];exact List.mem_cons_self ..)⟩
  all_goals
    intro x hx y hy
    rw [Array.toList_push] at hx
    rcases List.mem_append.mp hx with hx|hx
  · exact h2 x hx y hy
  · rw [List.mem_singleton.mp hx];exact c y hy
  · exact h3 x hx y (zdz hj hy)
  · rw [List.mem_singleton.mp hx];exact zf9 sb hj y hy
theorem pa (h:PM lt a b o i j) (sa:SrtL lt a.toList) (hi:i<a.size) (c:∀y∈b.toList.drop j,lt y a[i]=false):PM lt a b (o.push a[i]) (i+1) j:=by
  obtain ⟨p,h1,h2,h3⟩:=h
  refine ⟨mj_a p hi,?_,?_,?_⟩
  · rw [Array.toList_push]
    exact List.pairwise_append.mpr ⟨h1,List.pairwise_singleton _ _,fun x hx y hy=>by rw [List.mem_singleton.mp hy];exact h2 x hx _ (by rw [ydC hi];exact List.mem_cons_self ..)⟩
  all_goals
    intro x hx y hy
    rw [Array.toList_push] at hx
    rcases List.mem_append.mp hx with hx|hx
  · exact h2 x hx y (zdz hi hy)
  · rw [List.mem_singleton.mp hx];exact zf9 sa hi y hy
  · exact h3 x hx y hy
  · rw [List.mem_singleton.mp hx];exact c y hy
theorem pak (k:Nat) (h:PM lt a b o i j) (sa:SrtL lt a.toList) (c:∀x∈(a.extract i (i+k)).toList,∀y∈b.toList.drop j,lt y x=false):PM lt a b (o++a.extract i (i+k)) (i+k) j:=by
  obtain ⟨p,h1,h2,h3⟩:=h
  have e:=zee a i k
  have s2:(a.toList.drop i).Pairwise fun x y=>lt y x=false:=List.Pairwise.sublist (List.drop_sublist _ _) sa
  rw [e,List.pairwise_append] at s2
  refine ⟨zhq k p,?_,?_,?_⟩
  · rw [Array.toList_append]
    exact List.pairwise_append.mpr ⟨h1,s2.1,fun x hx y hy=>h2 x hx y (by rw [e];exact List.mem_append_left _ hy)⟩
  all_goals
    intro x hx y hy
    rw [Array.toList_append] at hx
    rcases List.mem_append.mp hx with hx|hx
  · exact h2 x hx y (by rw [e];exact List.mem_append_right _ hy)
  · exact s2.2.2 x hx y hy
  · exact h3 x hx y hy
  · exact c x hx y hy
theorem pbk (k:Nat) (h:PM lt a b o i j) (sb:SrtL lt b.toList) (c:∀x∈(b.extract j (j+k)).toList,∀y∈a.toList.drop i,lt y x=false):PM lt a b (o++b.extract j (j+k)) i (j+k):=by
  obtain ⟨p,h1,h2,h3⟩:=h
  have e:=zee b j k
  have s2:(b.toList.drop j).Pairwise fun x y=>lt y x=false:=List.Pairwise.sublist (List.drop_sublist _ _) sb
  rw [e,List.pairwise_append] at s2
  refine ⟨yhp k p,?_,?_,?_⟩
  · rw [Array.toList_append]
    exact List.pairwise_append.mpr ⟨h1,s2.1,fun x hx y hy=>h3 x hx y (by rw [e];exact List.mem_append_left _ hy)⟩
  all_goals
    intro x hx y hy
    rw [Array.toList_append] at hx
    rcases List.mem_append.mp hx with hx|hx
  · exact h2 x hx y hy
  · exact c x hx y hy
  · exact h3 x hx y (by rw [e];exact List.mem_append_right _ hy)
  · exact s2.2.2 x hx y hy
theorem zf6 (h:PM lt a b o i j) (sa:SrtL lt a.toList) (sb:SrtL lt b.toList) (e:i=a.size∨j=b.size):Fin2 lt a b (o++a.extract i a.size++b.extract j b.size):=by
  obtain ⟨p,h1,h2,h3⟩:=h
  refine ⟨zgy p,?_⟩
  unfold SrtL
  rw [Array.toList_append,Array.toList_append,zbm,zbm]
  have z:∀ {l:Array Keyed} {k:Nat},k=l.size→l.toList.drop k=[]:=fun {l k} e=>List.drop_eq_nil_of_le (by rw [e,Array.length_toList];exact Nat.le_refl _)
  rcases e with e|e
  · rw [z e,List.append_nil]
    exact List.pairwise_append.mpr ⟨h1,List.Pairwise.sublist (List.drop_sublist _ _) sb,h3⟩
  · rw [z e,List.append_nil]
    exact List.pairwise_append.mpr ⟨h1,List.Pairwise.sublist (List.drop_sublist _ _) sa,h2⟩
theorem ygI (h:PM lt a b o i j) (sb:SrtL lt b.toList) (e:i+1=a.size) (c:∀y∈b.toList,lt (av a i) y=false):Fin2 lt a b (o++b.extract j b.size++a.extract i a.size):=by
  obtain ⟨p,h1,h2,h3⟩:=h
  refine ⟨ygs p,?_⟩
  unfold SrtL
  rw [Array.toList_append,Array.toList_append,zbm,zbm]
  have hi:i<a.size:=by omega
  have z:a.toList.drop i=[a[i]]:=by rw [ydC hi,List.drop_eq_nil_of_le (by rw [Array.length_toList];omega)]
  rw [z]
  rw [z] at h2
  refine List.pairwise_append.mpr ⟨List.pairwise_append.mpr ⟨h1,List.Pairwise.sublist (List.drop_sublist _ _) sb,h3⟩,List.pairwise_singleton _ _,fun x hx y hy=>?_⟩
  rcases List.mem_append.mp hx with hx|hx
  · exact h2 x hx y hy
  · rw [List.mem_singleton.mp hy,ya8 hi]
    exact c x (List.mem_of_mem_drop hx)
theorem zda {l:Array Keyed} {i k:Nat} {x:Keyed} (h:x∈(l.extract i (i+k)).toList):∃u,u<k∧i+u<l.size∧x=av l (i+u):=by
  rw [Array.toList_extract,List.extract_eq_take_drop,Nat.add_sub_cancel_left] at h
  obtain ⟨u,hu,rfl⟩:=List.getElem_of_mem h
  rw [List.length_take,List.length_drop,Array.length_toList] at hu
  refine ⟨u,by omega,by omega,?_⟩
  rw [←ya8 (by omega),List.getElem_take,List.getElem_drop]
  rfl
end
end L2
end
section
namespace L2
open PySem PySem.W PySem.Calls PyProof.Rows
local macro_rules | `(tactic| ac_rfl) => `(tactic| first | omega | (dsimp only; omega))
theorem jpN {α β σ:Type} {E:Value→Shared→Prop} {f:α→StateT σ Sem β} (I:α→Prop) {Q:β→σ→Prop} {st:σ} {g:StateT σ Sem β} (k:(∀z,I z→wpS M A E s (f z) Q st)→wpS M A E s g Q st) (h:∀z,I z→wpS M A E s (f z) Q st):wpS M A E s g Q st:=k h
noncomputable def MJ (lt:Keyed→Keyed→Bool) (a b:Array Keyed) (c:Nat) (o:Array Keyed) (i j:Nat):Prop:=PM lt a b o i j∧j<b.size∧i+1<a.size∧c≤i+j
noncomputable def MR (lt:Keyed→Keyed→Bool) (a b:Array Keyed) (c:Nat) (r:Option (Array Keyed)) (o:Array Keyed) (i j:Nat):Prop:=(∃x,r=some x∧Fin2 lt a b x)∨(r=none∧MJ lt a b c o i j)
section
variable {prog:Program} {w:World} {A:Around} {E:Value→Shared→Prop} {s:Shared} {κ:SortKind}
variable {g:Keyed→Prop} {lt:Keyed→Keyed→Bool} (hA:AnsL prog w A s κ g lt) (hO:Ordr lt)
include hA hO
theorem zeS {st:SortSt} {a b:Array Keyed} {Q:Array Keyed→SortSt→Prop} (hk:kindOf st=κ) (ga:∀x∈a.toList,g x) (gb:∀x∈b.toList,g x) (na:0<a.size) (nb:0<b.size) (sa:SrtL lt a.toList) (sb:SrtL lt b.toList) (hF:lt (av a 0) (av b 0)=false) (hL:∀y∈b.toList,lt (av a (a.size-1)) y=false) (h:∀r st',Fin2 lt a b r→Sm st st'→Q r st'):wpS (model prog w) A E s (zfM a b) Q st:=by
  have lastA:∀ {o:Array Keyed} {i j:Nat},PM lt a b o i j→(i+1==a.size)=true→Fin2 lt a b (o++b.extract j b.size++a.extract i a.size):=fun {o i j} p e=>by
    have e:=eq_of_beq e
    exact ygI p sb e (by rw [show i=a.size-1 by lia];exact hL)
  have doneB:∀ {o:Array Keyed} {i j:Nat},PM lt a b o i j→(j==b.size)=true→Fin2 lt a b (o++a.extract i a.size++b.extract j b.size):=fun p e=>zf6 p sa sb (.inr (eq_of_beq e))
  refine wpS_bind (wpS_lift (wpAny_rule ⟨rfl,?_⟩))
  refine wpS_bind (yaw nb ?_)
  have p0:PM lt a b #[b[0]] 0 1:=by
    refine pb (o:=#[]) (i:=0) (j:=0) ⟨by simp,List.Pairwise.nil,(fun x hx=>absurd hx List.not_mem_nil),fun x hx=>absurd hx List.not_mem_nil⟩ sb nb fun y hy=>?_
    exact yb5 hO sa na (by rw [ya8 na,ya8 nb];exact hF) y hy
  refine S_if (fun e=>wpS_pure (h _ _ (doneB p0 e) ⟨rfl,rfl,rfl,rfl⟩)) fun c1=>?_
  refine S_if (fun e=>wpS_pure (h _ _ (lastA p0 e) ⟨rfl,rfl,rfl,rfl⟩)) fun c2=>?_
  have c1':=nbeq c1
  have c2':=nbeq c2
  refine wpS_bind (wpS_get ?_)
  refine wpS_bind (ybD (fun i z st'=>Sm st st'∧z.1=none∧MJ lt a b (i+1) z.2.1 z.2.2.1 z.2.2.2.1) (fun z st'=>Sm st st'∧∃x,z.1=some x∧Fin2 lt a b x) ⟨⟨rfl,rfl,rfl,rfl⟩,rfl,p0,(by ac_rfl),(by ac_rfl),(by ac_rfl)⟩ ?_ ?_ ?_)
  · rintro ⟨r,o,i,j,m⟩ st' ⟨_,_,p,q1,q2,q3⟩
    exfalso
    dsimp only at q1 q2 q3
    lia
  · rintro ⟨r,o,i,j,m⟩ st' ⟨e,x,e2,p⟩
    dsimp only at e2
    subst e2
    exact wpS_pure (h _ _ p e)
  rintro c ⟨r,o,i,j,m⟩ st' _ _ ⟨e0,e1,p⟩
  refine wpS_bind (ybD (fun k z st'=>Sm st st'∧z.1=none∧MJ lt a b (c+1+k) z.2.1 z.2.2.1 z.2.2.2.1) (fun z st'=>Sm st st'∧MR lt a b (c+1+1) z.1 z.2.1 z.2.2.1 z.2.2.2.1) ⟨e0,rfl,p⟩ ?_ ?_ ?_)
  · rintro ⟨r,o,i,j,m⟩ st' ⟨e,e1,p,q1,q2,q3⟩
    dsimp only at q1 q2 q3 e1
    exact ⟨e,.inr ⟨e1,p,q1,q2,(by ac_rfl)⟩⟩
  rotate_left
  · rintro k ⟨r,o,i,j,ac,bc⟩ st' _ _ ⟨e0,e1,p,q1,q2,q3⟩
    dsimp only at e1 p q1 q2 q3
    have q2':i<a.size:=by lia
    refine wpS_bind (yaw q1 (wpS_bind (yaw q2' (wpS_bind (S_lt hA (e0.1.trans hk) (gd gb q1) (gd ga q2') ?_)))))
    cases hc:lt b[j] a[i]
    · have p':=pa p sa q2' (yb5 hO sb q1 hc)
      refine wpS_bind (yaw q2' (S_if (fun e=>wpS_pure ⟨e0,.inl ⟨_,rfl,lastA p' e⟩⟩) fun c3=>?_))
      have c3':=nbeq c3
      dsimp only at c3'
      exact S_if (fun _=>wpS_pure ⟨e0,.inr ⟨rfl,p',q1,(by ac_rfl),(by ac_rfl)⟩⟩) fun _=>wpS_pure ⟨e0,rfl,p',q1,(by ac_rfl),(by ac_rfl)⟩
    · have p':=pb p sb q1 (yb5 hO sa q2' (hO.asym hc))
      refine wpS_bind (yaw q1 (S_if (fun e=>wpS_pure ⟨e0,.inl ⟨_,rfl,doneB p' e⟩⟩) fun c3=>?_))
      have c3':=nbeq c3
      dsimp only at c3'
      exact S_if (fun _=>wpS_pure ⟨e0,.inr ⟨rfl,p',(by ac_rfl),q2,(by ac_rfl)⟩⟩) fun _=>wpS_pure ⟨e0,rfl,p',(by ac_rfl),q2,(by ac_rfl)⟩
  rintro ⟨r,o,i,j,ac,bc⟩ st1 ⟨e0,⟨x,e,px⟩ | ⟨e1,p⟩⟩
  · dsimp only at e
    subst e
    exact wpS_pure ⟨e0,_,rfl,px⟩
  dsimp only at e1 p
  subst e1
  refine wpS_bind (wpS_lift (wpAny_rule ⟨rfl,?_⟩))
  refine wpS_bind (ybD (fun _ z st'=>Sm st st'∧z.1=none∧MJ lt a b (c+1+1) z.2.1 z.2.2.1 z.2.2.2.1) (fun z st'=>Sm st st'∧MR lt a b (c+1+1) z.1 z.2.1 z.2.2.1 z.2.2.2.1) ⟨e0,rfl,p⟩ ?_ ?_ ?_)
  · rintro ⟨r,o,i,j,m⟩ st' ⟨e,e1,p⟩
    exact ⟨e,.inr ⟨e1,p⟩⟩
  · rintro ⟨r,o,i,j,m,ac,bc⟩ st1 ⟨e0,⟨x,e,px⟩ | ⟨e1,p⟩⟩
    · dsimp only at e
      subst e
      exact wpS_pure ⟨e0,_,rfl,px⟩
    dsimp only at e1 p
    subst e1
    exact wpS_bind (wpS_modify (wpS_pure ⟨e0,rfl,p⟩))
  rintro k ⟨r,o,i,j,m,ac,bc⟩ st1 _ _ ⟨e0,e1,p,q1,q2,q3⟩
  dsimp only at e1 p q1 q2 q3
  extract_lets _ _ _ _ _ _ _ _ _ _ _ _ jp _
  refine jpN (f:=fun z=>jp () z) (fun _=>True) (fun key=>S_if (fun _=>key _ trivial) fun _=>key _ trivial) fun z _=>?_
  refine wpS_bind (wpS_modify (wpS_bind (yaw q1 (wpS_bind (ybx hA (e0.1.trans hk) (gd gb q1) ga (base:=i) (n:=a.size-i) (hint:=0) (by ac_rfl) (by ac_rfl) (zcV hO fun u v h1 h2=>ydH hO sa (by lia) (by lia)) fun k hk1 hk2 hk3=>?_)))))
  have ck:∀x∈(a.extract i (i+k)).toList,∀y∈b.toList.drop j,lt y x=false:=fun x hx=>by
    obtain ⟨u,hu,_,rfl⟩:=zda hx
    have:=hk2 u hu
    exact yb5 hO sb q1 (by simpa [bB] using this)
  have P1:=pak k p sa ck
  have Q3:∀k',k≤k'→i+k'<a.size→lt (av a (i+k')) b[j]=false:=fun k' h1 h2=>by
    have:=hk3 k' h1 (by lia)
    exact hO.asym (by simpa [bB] using this)
  dsimp -zeta only
  extract_lets ac2 jp2 _ _
  refine jpN (f:=fun z:Array Keyed×Nat=>jp2 () z.1 z.2) (fun z=>PM lt a b z.1 z.2 j∧i≤z.2∧z.2+1<a.size∧lt (av a z.2) b[j]=false) (fun key=>S_if (fun _=>S_if (fun e=>wpS_pure ⟨e0,.inl ⟨_,rfl,lastA P1 e⟩⟩) fun c1=>S_if (fun e=>wpS_pure ⟨e0,.inl ⟨_,rfl,zf6 P1 sa sb (.inl (eq_of_beq e))⟩⟩) fun c2=>key (_,i+k) ?_) fun c0=>key (o,i) ⟨p,Nat.le_refl _,q2,Q3 0 (by have c:¬ k>0:=c0;lia) (by lia)⟩) fun z hz=>?_
  · have c1':i+k+1≠a.size:=nbeq c1
    have c2':i+k≠a.size:=nbeq c2
    exact ⟨P1,Nat.le_add_right _ _,by show i+k+1<a.size;lia,Q3 k (Nat.le_refl _) (by lia)⟩
  obtain ⟨P1,Q6,Q7,Q8⟩:=hz
  have Q2:z.2<a.size:=by lia
  have P2:=pb P1 sb q1 (yb5 hO sa Q2 (by rw [ya8 Q2];exact Q8))
  refine wpS_bind (yaw q1 (S_if (fun e=>wpS_pure ⟨e0,.inl ⟨_,rfl,doneB P2 e⟩⟩) fun c3=>?_))
  have c3':j+1≠b.size:=nbeq c3
  have q4:j+1<b.size:=by lia
  refine wpS_bind (yaw Q2 (wpS_bind (ybx hA (e0.1.trans hk) (gd ga Q2) gb (base:=j+1) (n:=b.size-(j+1)) (hint:=0) (by ac_rfl) (by ac_rfl) (zcV hO fun u v h1 h2=>ydH hO sb (by lia) (by lia)) fun k2 hk4 hk5 hk6=>?_)))
  have P3:=pbk k2 P2 sb fun x hx=>by
    obtain ⟨u,hu,_,rfl⟩:=zda hx
    have:=hk5 u hu
    exact yb5 hO sa Q2 (hO.asym (by simpa [bB] using this))
  have Q9:∀k',k2≤k'→j+1+k'<b.size→∀y∈b.toList.drop (j+1+k'),lt y a[z.2]=false:=fun k' h1 h2=>yb5 hO sb h2 (by rw [ya8];simpa [bB] using hk6 k' h1 (by lia))
  dsimp -zeta only
  extract_lets bc3 n3 jp3 _ _
  refine jpN (f:=fun y:Array Keyed×Nat=>jp3 () y.1 y.2) (fun y=>PM lt a b y.1 z.2 y.2∧j+1≤y.2∧y.2<b.size∧∀w∈b.toList.drop y.2,lt w a[z.2]=false) (fun key=>S_if (fun _=>S_if (fun e=>wpS_pure ⟨e0,.inl ⟨_,rfl,doneB P3 e⟩⟩) fun c4=>key (_,j+1+k2) ?_) fun c0=>key (_,j+1) ⟨P2,Nat.le_refl _,q4,Q9 0 (by have c:¬ k2>0:=c0;lia) q4⟩) fun y hy=>?_
  · have c4':j+1+k2≠b.size:=nbeq c4
    exact ⟨P3,Nat.le_add_right _ _,by show j+1+k2<b.size;lia,Q9 k2 (Nat.le_refl _) (by lia)⟩
  obtain ⟨P3,h2,h3,Q5⟩:=hy
  have P4:=pa P3 sa Q2 Q5
  refine wpS_bind (yaw Q2 (S_if (fun e=>wpS_pure ⟨e0,.inl ⟨_,rfl,lastA P4 e⟩⟩) fun c5=>?_))
  have c5':z.2+1+1≠a.size:=nbeq c5
  exact S_if (fun _=>wpS_pure ⟨e0,.inr ⟨rfl,P4,(by ac_rfl),(by ac_rfl),(by ac_rfl)⟩⟩) fun _=>wpS_pure ⟨e0,rfl,P4,(by ac_rfl),(by ac_rfl),(by ac_rfl)⟩
end
end L2
end
section
namespace L2
open PySem PySem.W PySem.Calls PyProof.Rows
local macro_rules | `(tactic| ac_rfl) => `(tactic| first | omega | (dsimp only; omega))
theorem yer {α:Type} {a:Array α} {n:Nat} (h:0<n) (h2:n≤a.size):a.toList.take n=a.toList.take (n-1)++[a[n-1]]:=by
  have e:n=n-1+1:=by lia
  have h3:n-1<a.toList.length:=by rw [Array.length_toList];lia
  conv=>lhs;rw [e,List.take_succ_eq_append_getElem h3]
  rfl
theorem zcA {α:Type} (a:Array α) {k n:Nat} (h:k≤n):a.toList.take n=a.toList.take k++(a.extract k n).toList:=by
  rw [Array.toList_extract,List.extract_eq_take_drop,List.take_drop]
  have e:k+(n-k)=n:=by lia
  rw [e]
  have:=(List.take_append_drop k (a.toList.take n)).symm
  rwa [List.take_take,Nat.min_eq_left h] at this
theorem ydk {α:Type} (a:Array α) (n:Nat):(a.extract 0 n).toList=a.toList.take n:=by
  rw [Array.toList_extract,List.extract_eq_take_drop,List.drop_zero,Nat.sub_zero]
section
variable {a b o:Array Keyed} {i j:Nat} {X:List Keyed}
theorem hj_a (h:(a.toList.take i++b.toList.take j++o.toList.reverse).Perm X) (h0:0<i) (hi:i≤a.size):(a.toList.take (i-1)++b.toList.take j++(o.push a[i-1]).toList.reverse).Perm X:=by
  rw [yer h0 hi] at h
  rw [Array.toList_push,List.reverse_append]
  exact (pm1 _ [a[i-1]] _ _).symm.trans h
theorem hj_b (h:(a.toList.take i++b.toList.take j++o.toList.reverse).Perm X) (h0:0<j) (hj:j≤b.size):(a.toList.take i++b.toList.take (j-1)++(o.push b[j-1]).toList.reverse).Perm X:=by
  rw [yer h0 hj] at h
  rw [Array.toList_push,List.reverse_append]
  simpa using h
theorem yhj {k:Nat} (h:(a.toList.take i++b.toList.take j++o.toList.reverse).Perm X) (hk:k≤i) (hi:i≤a.size):(a.toList.take k++b.toList.take j++(o++(a.extract k i).reverse).toList.reverse).Perm X:=by
  rw [zcA a hk] at h
  rw [Array.toList_append,List.reverse_append,Array.toList_reverse,List.reverse_reverse]
  exact (pm1 _ _ _ _).symm.trans h
theorem yhb {k:Nat} (h:(a.toList.take i++b.toList.take j++o.toList.reverse).Perm X) (hk:k≤j) (hj:j≤b.size):(a.toList.take i++b.toList.take k++(o++(b.extract k j).reverse).toList.reverse).Perm X:=by
  rw [zcA b hk] at h
  rw [Array.toList_append,List.reverse_append,Array.toList_reverse,List.reverse_reverse]
  simpa using h
theorem ygl (h:(a.toList.take i++b.toList.take j++o.toList.reverse).Perm X):(a.extract 0 i++b.extract 0 j++o.reverse).toList.Perm X:=by
  rw [Array.toList_append,Array.toList_append,ydk,ydk,Array.toList_reverse];exact h
theorem yfL (h:(a.toList.take i++b.toList.take j++o.toList.reverse).Perm X):(b.extract 0 j++a.extract 0 i++o.reverse).toList.Perm X:=by
  rw [Array.toList_append,Array.toList_append,ydk,ydk,Array.toList_reverse]
  exact (List.Perm.append_right _ List.perm_append_comm).trans h
end
theorem zfe {l:Array Keyed} {i:Nat} {y:Keyed} (h:y∈l.toList.take i):∃u,u<i∧u<l.size∧y=av l u:=by
  obtain ⟨u,hu,rfl⟩:=List.getElem_of_mem h
  rw [List.length_take,Array.length_toList] at hu
  refine ⟨u,by lia,by lia,?_⟩
  rw [←ya8 (by lia),List.getElem_take]
  rfl
theorem yce {l:Array Keyed} {k i:Nat} {x:Keyed} (hk:k≤i) (h:x∈(l.extract k i).toList):∃u,k≤u∧u<i∧u<l.size∧x=av l u:=by
  rw [show i=k+(i-k) by lia] at h
  obtain ⟨u,h1,h2,h3⟩:=zda h
  exact ⟨k+u,by lia,by lia,h2,h3⟩
noncomputable def HM (lt:Keyed→Keyed→Bool) (a b o:Array Keyed) (i j:Nat):Prop:=(a.toList.take i++b.toList.take j++o.toList.reverse).Perm (a.toList++b.toList)∧SrtL lt o.toList.reverse∧(∀x∈o.toList,∀y∈a.toList.take i,lt x y=false)∧∀x∈o.toList,∀y∈b.toList.take j,lt x y=false
section
variable {lt:Keyed→Keyed→Bool} {a b o:Array Keyed} {i j:Nat}
theorem ydh {l:Array Keyed} {k i:Nat} {y:Keyed} (hk:k≤i) (h:y∈l.toList.take k):y∈l.toList.take i:=by
  rw [zcA l hk];exact List.mem_append_left _ h
theorem ye8 {l:Array Keyed} {i:Nat} (hs:SrtL lt l.toList) (h0:0<i) (hi:i≤l.size):∀y∈l.toList.take (i-1),lt l[i-1] y=false:=fun y hy=>by
  have h2:(l.toList.take i).Pairwise fun x y=>lt y x=false:=List.Pairwise.sublist (List.take_sublist _ _) hs
  rw [yer h0 hi,List.pairwise_append] at h2
  exact h2.2.2 y hy _ (List.mem_singleton.mpr rfl)
theorem yd6 (hO:Ordr lt) {l:Array Keyed} {i:Nat} {x:Keyed} (hs:SrtL lt l.toList) (h0:0<i) (hi:i≤l.size) (h:lt x l[i-1]=false):∀y∈l.toList.take i,lt x y=false:=fun y hy=>by
  rw [yer h0 hi] at hy
  rcases List.mem_append.mp hy with hy|hy
  · exact hO.trans (ye8 hs h0 hi y hy) h
  · rw [List.mem_singleton.mp hy];exact h
theorem ha (h:HM lt a b o i j) (sa:SrtL lt a.toList) (h0:0<i) (hi:i≤a.size) (c:∀y∈b.toList.take j,lt a[i-1] y=false):HM lt a b (o.push a[i-1]) (i-1) j:=by
  obtain ⟨p,h1,h2,h3⟩:=h
  refine ⟨hj_a p h0 hi,?_,?_,?_⟩
  · rw [Array.toList_push,List.reverse_append]
    exact List.pairwise_cons.mpr ⟨fun y hy=>h2 y (List.mem_reverse.mp hy) _ (by rw [yer h0 hi];exact List.mem_append_right _ (List.mem_singleton.mpr rfl)),h1⟩
  all_goals
    intro x hx y hy
    rw [Array.toList_push] at hx
    rcases List.mem_append.mp hx with hx|hx
  · exact h2 x hx y (ydh (by lia) hy)
  · rw [List.mem_singleton.mp hx];exact ye8 sa h0 hi y hy
  · exact h3 x hx y hy
  · rw [List.mem_singleton.mp hx];exact c y hy
theorem hb (h:HM lt a b o i j) (sb:SrtL lt b.toList) (h0:0<j) (hj:j≤b.size) (c:∀y∈a.toList.take i,lt b[j-1] y=false):HM lt a b (o.push b[j-1]) i (j-1):=by
  obtain ⟨p,h1,h2,h3⟩:=h
  refine ⟨hj_b p h0 hj,?_,?_,?_⟩
  · rw [Array.toList_push,List.reverse_append]
    exact List.pairwise_cons.mpr ⟨fun y hy=>h3 y (List.mem_reverse.mp hy) _ (by rw [yer h0 hj];exact List.mem_append_right _ (List.mem_singleton.mpr rfl)),h1⟩
  all_goals
    intro x hx y hy
    rw [Array.toList_push] at hx
    rcases List.mem_append.mp hx with hx|hx
  · exact h2 x hx y hy
  · rw [List.mem_singleton.mp hx];exact c y hy
  · exact h3 x hx y (ydh (by lia) hy)
  · rw [List.mem_singleton.mp hx];exact ye8 sb h0 hj y hy
theorem hak {k:Nat} (h:HM lt a b o i j) (sa:SrtL lt a.toList) (hk:k≤i) (hi:i≤a.size) (c:∀x∈(a.extract k i).toList,∀y∈b.toList.take j,lt x y=false):HM lt a b (o++(a.extract k i).reverse) k j:=by
  obtain ⟨p,h1,h2,h3⟩:=h
  have e:=zcA a hk
  have s2:(a.toList.take i).Pairwise fun x y=>lt y x=false:=List.Pairwise.sublist (List.take_sublist _ _) sa
  rw [e,List.pairwise_append] at s2
  refine ⟨yhj p hk hi,?_,?_,?_⟩
  · rw [Array.toList_append,List.reverse_append,Array.toList_reverse,List.reverse_reverse]
    exact List.pairwise_append.mpr ⟨s2.2.1,h1,fun x hx y hy=>h2 y (List.mem_reverse.mp hy) x (by rw [e];exact List.mem_append_right _ hx)⟩
  all_goals
    intro x hx y hy
    rw [Array.toList_append,Array.toList_reverse] at hx
    rcases List.mem_append.mp hx with hx|hx
  · exact h2 x hx y (ydh hk hy)
  · exact s2.2.2 y hy x (List.mem_reverse.mp hx)
  · exact h3 x hx y hy
  · exact c x (List.mem_reverse.mp hx) y hy
theorem hbk {k:Nat} (h:HM lt a b o i j) (sb:SrtL lt b.toList) (hk:k≤j) (hj:j≤b.size) (c:∀x∈(b.extract k j).toList,∀y∈a.toList.take i,lt x y=false):HM lt a b (o++(b.extract k j).reverse) i k:=by
  obtain ⟨p,h1,h2,h3⟩:=h
  have e:=zcA b hk
  have s2:(b.toList.take j).Pairwise fun x y=>lt y x=false:=List.Pairwise.sublist (List.take_sublist _ _) sb
  rw [e,List.pairwise_append] at s2
  refine ⟨yhb p hk hj,?_,?_,?_⟩
  · rw [Array.toList_append,List.reverse_append,Array.toList_reverse,List.reverse_reverse]
    exact List.pairwise_append.mpr ⟨s2.2.1,h1,fun x hx y hy=>h3 y (List.mem_reverse.mp hy) x (by rw [e];exact List.mem_append_right _ hx)⟩
  all_goals
    intro x hx y hy
    rw [Array.toList_append,Array.toList_reverse] at hx
    rcases List.mem_append.mp hx with hx|hx
  · exact h2 x hx y hy
  · exact c x (List.mem_reverse.mp hx) y hy
  · exact h3 x hx y (ydh hk hy)
  · exact s2.2.2 y hy x (List.mem_reverse.mp hx)
theorem yf9 (h:HM lt a b o i j) (sa:SrtL lt a.toList) (sb:SrtL lt b.toList) (e:i=0∨j=0):Fin2 lt a b (a.extract 0 i++b.extract 0 j++o.reverse):=by
  obtain ⟨p,h1,h2,h3⟩:=h
  refine ⟨ygl p,?_⟩
  unfold SrtL
  rw [Array.toList_append,Array.toList_append,ydk,ydk,Array.toList_reverse]
  rcases e with rfl|rfl
  · rw [List.take_zero,List.nil_append]
    exact List.pairwise_append.mpr ⟨List.Pairwise.sublist (List.take_sublist _ _) sb,h1,fun x hx y hy=>h3 y (List.mem_reverse.mp hy) x hx⟩
  · rw [List.take_zero,List.append_nil]
    exact List.pairwise_append.mpr ⟨List.Pairwise.sublist (List.take_sublist _ _) sa,h1,fun x hx y hy=>h2 y (List.mem_reverse.mp hy) x hx⟩
theorem zgf (h:HM lt a b o i j) (sa:SrtL lt a.toList) (e:j=1) (c:∀y∈a.toList,lt y (av b 0)=false):Fin2 lt a b (b.extract 0 j++a.extract 0 i++o.reverse):=by
  obtain ⟨p,h1,h2,h3⟩:=h
  refine ⟨yfL p,?_⟩
  unfold SrtL
  rw [Array.toList_append,Array.toList_append,ydk,ydk,Array.toList_reverse]
  refine List.pairwise_append.mpr ⟨List.pairwise_append.mpr ⟨?_,List.Pairwise.sublist (List.take_sublist _ _) sa,fun x hx y hy=>?_⟩,h1,fun x hx y hy=>?_⟩
  · subst e
    cases b.toList with
    | nil=>exact List.Pairwise.nil
    | cons z l=>exact List.pairwise_singleton _ _
  · obtain ⟨u,hu,_,rfl⟩:=zfe hx
    rw [show u=0 by lia]
    exact c y (List.mem_of_mem_take hy)
  · rcases List.mem_append.mp hx with hx|hx
    · exact h3 y (List.mem_reverse.mp hy) x hx
    · exact h2 y (List.mem_reverse.mp hy) x hx
end
noncomputable def HJ (lt:Keyed→Keyed→Bool) (a b:Array Keyed) (c:Nat) (o:Array Keyed) (i j:Nat):Prop:=HM lt a b o i j∧1≤i∧i≤a.size∧2≤j∧j≤b.size∧i+j+c≤a.size+b.size
noncomputable def HR (lt:Keyed→Keyed→Bool) (a b:Array Keyed) (c:Nat) (r:Option (Array Keyed)) (o:Array Keyed) (i j:Nat):Prop:=(∃x,r=some x∧Fin2 lt a b x)∨(r=none∧HJ lt a b c o i j)
section
variable {prog:Program} {w:World} {A:Around} {E:Value→Shared→Prop} {s:Shared} {κ:SortKind}
variable {g:Keyed→Prop} {lt:Keyed→Keyed→Bool} (hA:AnsL prog w A s κ g lt) (hO:Ordr lt)
include hA hO
theorem zfg {st:SortSt} {a b:Array Keyed} {Q:Array Keyed→SortSt→Prop} (hk:kindOf st=κ) (ga:∀x∈a.toList,g x) (gb:∀x∈b.toList,g x) (na:0<a.size) (nb:0<b.size) (sa:SrtL lt a.toList) (sb:SrtL lt b.toList) (hF:∀y∈a.toList,lt y (av b 0)=false) (hL:∀y∈b.toList,lt (av a (a.size-1)) y=false) (h:∀r st',Fin2 lt a b r→Sm st st'→Q r st'):wpS (model prog w) A E s (yfJ a b) Q st:=by
  have doneA:∀ {o:Array Keyed} {i j:Nat},HM lt a b o i j→(i==0)=true→Fin2 lt a b (a.extract 0 i++b.extract 0 j++o.reverse):=fun p e=>yf9 p sa sb (.inl (eq_of_beq e))
  have firstB:∀ {o:Array Keyed} {i j:Nat},HM lt a b o i j→(j==1)=true→Fin2 lt a b (b.extract 0 j++a.extract 0 i++o.reverse):=fun p e=>zgf p sa (eq_of_beq e) hF
  refine wpS_bind (wpS_lift (wpAny_rule ⟨rfl,?_⟩))
  refine wpS_bind (yaw (a:=a) (i:=a.size-1) (by lia) ?_)
  have p0:HM lt a b #[a[a.size-1]] (a.size-1) b.size:=by
    refine ha (o:=#[]) (i:=a.size) ⟨?_,List.Pairwise.nil,(fun x hx=>absurd hx List.not_mem_nil),fun x hx=>absurd hx List.not_mem_nil⟩ sa na (Nat.le_refl _) fun y hy=>?_
    · rw [List.take_of_length_le (by simp),List.take_of_length_le (by simp)]
      simp
    · rw [ya8];exact hL y (List.mem_of_mem_take hy)
  refine S_if (fun e=>wpS_pure (h _ _ (doneA p0 e) ⟨rfl,rfl,rfl,rfl⟩)) fun c1=>?_
  refine S_if (fun e=>wpS_pure (h _ _ (firstB p0 e) ⟨rfl,rfl,rfl,rfl⟩)) fun c2=>?_
  have c1':=nbeq c1
  have c2':=nbeq c2
  refine wpS_bind (wpS_get ?_)
  refine wpS_bind (ybD (fun i z st'=>Sm st st'∧z.1=none∧HJ lt a b (i+1) z.2.2.2.1 z.2.1 z.2.2.1) (fun z st'=>Sm st st'∧∃x,z.1=some x∧Fin2 lt a b x) ⟨⟨rfl,rfl,rfl,rfl⟩,rfl,p0,(by ac_rfl),(by ac_rfl),(by ac_rfl),(by ac_rfl),(by ac_rfl)⟩ ?_ ?_ ?_)
  · rintro ⟨r,na,nb,o,m⟩ st' ⟨_,_,p,q1,q2,q3,q4,q5⟩
    exfalso
    dsimp only at q1 q2 q3 q4 q5
    lia
  · rintro ⟨r,na,nb,o,m⟩ st' ⟨e,x,e2,p⟩
    dsimp only at e2
    subst e2
    exact wpS_pure (h _ _ p e)
  rintro c ⟨r,na,nb,o,m⟩ st' _ _ ⟨e0,e1,p⟩
  refine wpS_bind (ybD (fun k z st'=>Sm st st'∧z.1=none∧HJ lt a b (c+1+k) z.2.2.2.1 z.2.1 z.2.2.1) (fun z st'=>Sm st st'∧HR lt a b (c+1+1) z.1 z.2.2.2.1 z.2.1 z.2.2.1) ⟨e0,rfl,p⟩ ?_ ?_ ?_)
  · rintro ⟨r,na,nb,o,m⟩ st' ⟨e,e1,p,q1,q2,q3,q4,q5⟩
    dsimp only at q1 q2 q3 q4 q5 e1
    exact ⟨e,.inr ⟨e1,p,q1,q2,q3,q4,(by ac_rfl)⟩⟩
  rotate_left
  · rintro k ⟨r,na,nb,o,ac,bc⟩ st' _ _ ⟨e0,e1,p,q1,q2,q3,q4,q5⟩
    dsimp only at e1 p q1 q2 q3 q4 q5
    have r1:nb-1<b.size:=by lia
    have r2:na-1<a.size:=by lia
    refine wpS_bind (yaw r1 (wpS_bind (yaw r2 (wpS_bind (S_lt hA (e0.1.trans hk) (gd gb r1) (gd ga r2) ?_)))))
    cases hc:lt b[nb-1] a[na-1]
    · have p':=hb p sb (by lia) q4 (yd6 hO sa q1 q2 hc)
      refine wpS_bind (yaw r1 (S_if (fun e=>wpS_pure ⟨e0,.inl ⟨_,rfl,firstB p' e⟩⟩) fun c3=>?_))
      have c3':=nbeq c3
      dsimp only at c3'
      exact S_if (fun _=>wpS_pure ⟨e0,.inr ⟨rfl,p',q1,q2,(by ac_rfl),(by ac_rfl),(by ac_rfl)⟩⟩) fun _=>wpS_pure ⟨e0,rfl,p',q1,q2,(by ac_rfl),(by ac_rfl),(by ac_rfl)⟩
    · have p':=ha p sa q1 q2 (yd6 hO sb (by lia) q4 (hO.asym hc))
      refine wpS_bind (yaw r2 (S_if (fun e=>wpS_pure ⟨e0,.inl ⟨_,rfl,doneA p' e⟩⟩) fun c3=>?_))
      have c3':=nbeq c3
      dsimp only at c3'
      exact S_if (fun _=>wpS_pure ⟨e0,.inr ⟨rfl,p',(by ac_rfl),(by ac_rfl),q3,q4,(by ac_rfl)⟩⟩) fun _=>wpS_pure ⟨e0,rfl,p',(by ac_rfl),(by ac_rfl),q3,q4,(by ac_rfl)⟩
  rintro ⟨r,na,nb,o,ac,bc⟩ st1 ⟨e0,⟨x,e,px⟩ | ⟨e1,p⟩⟩
  · dsimp only at e
    subst e
    exact wpS_pure ⟨e0,_,rfl,px⟩
  dsimp only at e1 p
  subst e1
  refine wpS_bind (wpS_lift (wpAny_rule ⟨rfl,?_⟩))
  refine wpS_bind (ybD (fun _ z st'=>Sm st st'∧z.1=none∧HJ lt a b (c+1+1) z.2.2.2.1 z.2.1 z.2.2.1) (fun z st'=>Sm st st'∧HR lt a b (c+1+1) z.1 z.2.2.2.1 z.2.1 z.2.2.1) ⟨e0,rfl,p⟩ ?_ ?_ ?_)
  · rintro ⟨r,na,nb,o,m⟩ st' ⟨e,e1,p⟩
    exact ⟨e,.inr ⟨e1,p⟩⟩
  · rintro ⟨r,na,nb,o,m,ac,bc⟩ st1 ⟨e0,⟨x,e,px⟩ | ⟨e1,p⟩⟩
    · dsimp only at e
      subst e
      exact wpS_pure ⟨e0,_,rfl,px⟩
    dsimp only at e1 p
    subst e1
    exact wpS_bind (wpS_modify (wpS_pure ⟨e0,rfl,p⟩))
  rintro k ⟨r,na,nb,o,m,ac,bc⟩ st1 _ _ ⟨e0,e1,p,q1,q2,q3,q4,q5⟩
  dsimp only at e1 p q1 q2 q3 q4 q5
  have r1:nb-1<b.size:=by lia
  extract_lets _ _ _ _ _ _ _ _ _ _ _ _ jp _
  refine jpN (f:=fun z=>jp () z) (fun _=>True) (fun key=>S_if (fun _=>key _ trivial) fun _=>key _ trivial) fun z _=>?_
  refine wpS_bind (wpS_modify (wpS_bind (yaw r1 (wpS_bind (ybx hA (e0.1.trans hk) (gd gb r1) ga (base:=0) (n:=na) (hint:=na-1) (by ac_rfl) (by ac_rfl) (zcV hO fun u v h1 h2=>ydH hO sa (by lia) (by lia)) fun k hk1 hk2 hk3=>?_)))))
  dsimp -zeta only
  extract_lets k1 ac2 jp2 _ _
  have P1:=hak p sa hk1 q2 fun x hx=>by
    obtain ⟨u,h1,h2,_,rfl⟩:=yce hk1 hx
    have:=hk3 u h1 h2
    exact yd6 hO sb (by lia) q4 (hO.asym (by simpa [bB] using this))
  have Q5:∀i,(i≤k)→∀y∈a.toList.take i,lt b[nb-1] y=false:=fun i hi y hy=>by
    obtain ⟨u,h1,_,rfl⟩:=zfe hy
    simpa [bB] using hk2 u (by lia)
  refine jpN (f:=fun z:Nat×Array Keyed=>jp2 () z.1 z.2) (fun z=>HM lt a b z.2 z.1 nb∧0<z.1∧z.1≤na∧∀y∈a.toList.take z.1,lt b[nb-1] y=false) (fun key=>S_if (fun _=>S_if (fun e=>wpS_pure ⟨e0,.inl ⟨_,rfl,doneA P1 e⟩⟩) fun c1=>key (k,_) ⟨P1,Nat.pos_of_ne_zero (nbeq c1),hk1,Q5 k (Nat.le_refl _)⟩) fun c0=>key (na,o) ⟨p,q1,Nat.le_refl _,Q5 na (by have c:¬ na-k>0:=c0;lia)⟩) fun z hz=>?_
  obtain ⟨P1,Q3,Q6,Q5⟩:=hz
  have Q4:=Nat.le_trans Q6 q2
  have P2:=hb P1 sb (by lia) q4 Q5
  refine wpS_bind (yaw r1 (S_if (fun e=>wpS_pure ⟨e0,.inl ⟨_,rfl,firstB P2 e⟩⟩) fun c3=>?_))
  have c3':nb-1≠1:=nbeq c3
  have Q2:z.1-1<a.size:=by lia
  refine wpS_bind (yaw Q2 (wpS_bind (ybx hA (e0.1.trans hk) (gd ga Q2) gb (base:=0) (n:=nb-1) (hint:=nb-1-1) (by ac_rfl) (by ac_rfl) (zcV hO fun u v h1 h2=>ydH hO sb (by lia) (by lia)) fun k2 hk4 hk5 hk6=>?_)))
  have P3:=hbk (k:=k2) P2 sb (by ac_rfl) (by ac_rfl) fun x hx=>by
    obtain ⟨u,h1,h2,_,rfl⟩:=yce hk4 hx
    have:=hk6 u h1 h2
    exact yd6 hO sa Q3 Q4 (by simpa [bB] using this)
  have Q7:∀i,i≤k2→∀y∈b.toList.take i,lt a[z.1-1] y=false:=fun i hi y hy=>by
    obtain ⟨u,h1,_,rfl⟩:=zfe hy
    exact hO.asym (by simpa [bB] using hk5 u (by lia))
  dsimp -zeta only
  extract_lets k3 bc3 n3 jp3 _ _
  refine jpN (f:=fun y:Nat×Array Keyed=>jp3 () y.1 y.2) (fun y=>HM lt a b y.2 z.1 y.1∧2≤y.1∧y.1≤nb-1∧∀w∈b.toList.take y.1,lt a[z.1-1] w=false) (fun key=>S_if (fun _=>S_if (fun e=>wpS_pure ⟨e0,.inl ⟨_,rfl,firstB P3 e⟩⟩) fun c4=>S_if (fun e=>wpS_pure ⟨e0,.inl ⟨_,rfl,yf9 P3 sa sb (.inr (eq_of_beq e))⟩⟩) fun c6=>key (k2,_) ⟨P3,(by have c:k2≠1:=nbeq c4;have d:k2≠0:=nbeq c6;show 2≤k2;lia),hk4,Q7 k2 (Nat.le_refl _)⟩) fun c0=>key (nb-1,_) ⟨P2,(by show 2≤nb-1;lia),Nat.le_refl _,Q7 (nb-1) (by have c:¬ nb-1-k2>0:=c0;lia)⟩) fun y hy=>?_
  obtain ⟨P3,h2,h3,Q8⟩:=hy
  have P4:=ha P3 sa Q3 Q4 Q8
  refine wpS_bind (yaw Q2 (S_if (fun e=>wpS_pure ⟨e0,.inl ⟨_,rfl,doneA P4 e⟩⟩) fun c5=>?_))
  have c5':n3≠0:=nbeq c5
  have e3:n3=z.1-1:=rfl
  exact S_if (fun _=>wpS_pure ⟨e0,.inr ⟨rfl,P4,(by ac_rfl),(by ac_rfl),(by ac_rfl),(by ac_rfl),(by ac_rfl)⟩⟩) fun _=>wpS_pure ⟨e0,rfl,P4,(by ac_rfl),(by ac_rfl),(by ac_rfl),(by ac_rfl),(by ac_rfl)⟩
end
end L2
end
section
namespace L2
open PySem PySem.W PySem.Calls PyProof.Rows
local macro_rules | `(tactic| ac_rfl) => `(tactic| first | omega | (dsimp only; omega))
theorem jpS {β σ:Type} {E:Value→Shared→Prop} {f:StateT σ Sem β} (I:σ→Prop) {Q:β→σ→Prop} {st:σ} {g:StateT σ Sem β} (k:(∀z,I z→wpS M A E s f Q z)→wpS M A E s g Q st) (h:∀z,I z→wpS M A E s f Q z):wpS M A E s g Q st:=k h
noncomputable def Pm (st st':SortSt):Prop:=kindOf st'=kindOf st∧pendingOf st'=pendingOf st∧failedOf st'=failedOf st∧(arrOf st').toList.Perm (arrOf st).toList
theorem Pm.rfl {st:SortSt}:Pm st st:=⟨Eq.refl _,Eq.refl _,Eq.refl _,.refl _⟩
theorem Pm.trans {a b c:SortSt} (x:Pm a b) (y:Pm b c):Pm a c:=⟨y.1.trans x.1,y.2.1.trans x.2.1,y.2.2.1.trans x.2.2.1,y.2.2.2.trans x.2.2.2⟩
theorem Pm.size {a b:SortSt} (x:Pm a b):(arrOf b).size=(arrOf a).size:=by
  have:=x.2.2.2.length_eq
  rwa [Array.length_toList,Array.length_toList] at this
theorem av_q (a:Array Keyed) (k:Nat):av a k=(a[k]?).getD (Value.none,Value.none):=by
  unfold av
  rw [Array.getD_eq_getD_getElem?]
theorem zbJ {a:Array Keyed} {i j:Nat} (hj:j≤a.size) (k:Nat):av (mirror a i j ((j-i)/2)) k=if i≤k∧k<j then av a (i+j-1-k) else av a k:=by
  rw [av_q,getElem?_mirror_all hj]
  split <;> rw [av_q]
theorem yfg {a:Array Keyed} {n d:Nat} (hs:n<a.size) (hd:d≤n) (k:Nat):av (bubble a n d) k=if k=n-d then av a n else if n-d<k∧k≤n then av a (k-1) else av a k:=by
  rw [av_q,getElem?_bubble hs d hd]
  split
  · rw [av_q]
  · split <;> rw [av_q]
def Asc (lt:Keyed→Keyed→Bool) (a:Array Keyed) (i j:Nat):Prop:=∀u v,i≤u→u≤v→v<j→lt (av a v) (av a u)=false
def Dsc (lt:Keyed→Keyed→Bool) (a:Array Keyed) (i j:Nat):Prop:=∀u v,i≤u→u≤v→v<j→lt (av a u) (av a v)=false
def Bel (a b:Array Keyed) (lo:Nat):Prop:=∀k,k<lo→av b k=av a k
theorem Bel.trans {a b c:Array Keyed} {lo:Nat} (x:Bel a b lo) (y:Bel b c lo):Bel a c lo:=fun k h=>(y k h).trans (x k h)
theorem Bel.mir (a:Array Keyed) {lo i j:Nat} (hi:lo≤i) (hj:j≤a.size):Bel a (mirror a i j ((j-i)/2)) lo:=fun k hk=>by
  rw [zbJ hj,if_neg (by lia)]
section
variable {lt:Keyed→Keyed→Bool} (hO:Ordr lt) {a:Array Keyed} {i j:Nat}
include hO
theorem ygf:Asc lt a i (i+1):=fun u v h1 h2 h3=>by rw [show u=v by lia];exact hO.refl _
theorem yfK (h:Asc lt a i j) (hij:i<j) (c:lt (av a j) (av a (j-1))=false):Asc lt a i (j+1):=fun u v h1 h2 h3=>by
  rcases Nat.lt_or_ge v j with q|q
  · exact h u v h1 h2 q
  · have e:v=j:=by lia
    subst e
    rcases Nat.lt_or_ge u v with q|q
    · exact hO.trans (h u (v-1) h1 (by lia) (by lia)) c
    · rw [show u=v by lia];exact hO.refl _
theorem zbO (h:Dsc lt a i j) (hij:i<j) (c:lt (av a (j-1)) (av a j)=false):Dsc lt a i (j+1):=fun u v h1 h2 h3=>by
  rcases Nat.lt_or_ge v j with q|q
  · exact h u v h1 h2 q
  · have e:v=j:=by lia
    subst e
    rcases Nat.lt_or_ge u v with q|q
    · exact hO.trans c (h u (v-1) h1 (by lia) (by lia))
    · rw [show u=v by lia];exact hO.refl _
omit hO in
theorem ygk (h:Dsc lt a i j) (hj:j≤a.size):Asc lt (mirror a i j ((j-i)/2)) i j:=fun u v h1 h2 h3=>by
  rw [zbJ hj,zbJ hj,if_pos (by lia),if_pos (by lia)]
  exact h _ _ (by lia) (by lia) (by lia)
omit hO in
theorem yeO {k:Nat} (h:Dsc lt a i j) (hk:i≤k) (hj:j≤a.size) (hkj:k≤j) (e:∀u v,k≤u→u<j→k≤v→v<j→lt (av a u) (av a v)=false):Dsc lt (mirror a k j ((j-k)/2)) i j:=fun u v h1 h2 h3=>by
  rw [zbJ hj,zbJ hj]
  by_cases c1:k≤u
  · rw [if_pos (by lia),if_pos (by lia)]
    exact e _ _ (by lia) (by lia) (by lia) (by lia)
  · rw [if_neg (by lia)]
    split
    · exact h _ _ h1 (by lia) (by lia)
    · exact h _ _ h1 h2 h3
end
section
variable {prog:Program} {w:World} {A:Around} {E:Value→Shared→Prop} {s:Shared} {κ:SortKind}
theorem zfV {st:SortSt} {i j:Nat} {Q:Unit→SortSt→Prop} (h:∀st',Pm st st'→arrOf st'=mirror (arrOf st) i j ((j-i)/2)→Q () st'):wpS (model prog w) A E s (reverseSlice' i j) Q st:=by
  rw [reverseSlice'_eq]
  exact wpS_modify (h _ ⟨rfl,rfl,rfl,Array.perm_iff_toList_perm.mp (mirror_perm _ _ _ _)⟩ rfl)
theorem ygU {st:SortSt} {i j:Nat} {Q:Unit→SortSt→Prop} (h:∀st',Pm st st'→arrOf st'=bubble (arrOf st) i (i-j)→Q () st'):wpS (model prog w) A E s (moveDown' i j) Q st:=by
  rw [moveDown'_eq]
  exact wpS_modify (h _ ⟨rfl,rfl,rfl,Array.perm_iff_toList_perm.mp (bubble_perm _ _ _)⟩ rfl)
variable {g:Keyed→Prop} {lt:Keyed→Keyed→Bool} (hA:AnsL prog w A s κ g lt) (hO:Ordr lt)
include hA
theorem zcy {st st':SortSt} {i j:Nat} {Q:Option Bool→SortSt→Prop} (hk:kindOf st=κ) (gs:∀x∈(arrOf st).toList,g x) (e:Pm st st') (hi:i<(arrOf st).size) (hj:j<(arrOf st).size) (h:Q (some (lt (av (arrOf st') i) (av (arrOf st') j))) st'):wpS (model prog w) A E s (ltAt' i j) Q st':=by
  have hi':i<(arrOf st').size:=by rw [e.size];exact hi
  have hj':j<(arrOf st').size:=by rw [e.size];exact hj
  rw [←ya8 hi',←ya8 hj'] at h
  exact yg8 hA (e.1.trans hk) hi' hj' (fun x hx=>gs x (e.2.2.2.mem_iff.mp hx)) h
include hO
theorem ygK {st st':SortSt} {lo nrem n:Nat} {Q:Option (Option Nat)×Nat→SortSt→Prop} (hk:kindOf st=κ) (gs:∀x∈(arrOf st).toList,g x) (hz:lo+nrem≤(arrOf st).size) (e:Pm st st') (h1:1≤n) (h2:n≤nrem) (hs:Asc lt (arrOf st') lo (lo+n)) (h:∀m,1≤m→m≤nrem→Asc lt (arrOf st') lo (lo+m)→(m=nrem∨lt (av (arrOf st') (lo+m)) (av (arrOf st') (lo+m-1))=true)→Q (none,m) st'):wpS (model prog w) A E s (forIn [n:nrem] ((none,n):Option (Option Nat)×Nat) fun _ z=>ltAt' (lo+z.2) (lo+z.2-1) >>= fun r=>match r with
      | some c=>if c=true then pure (ForInStep.done (none,z.2)) else pure (ForInStep.yield (none,z.2+1))
      | _=>pure (ForInStep.done (some none,z.2))) Q st':=by
  refine ybD (fun i z u=>u=st'∧z.1=none∧1≤z.2∧z.2=i∧Asc lt (arrOf st') lo (lo+z.2)) (fun z u=>u=st'∧z.1=none∧1≤z.2∧z.2≤nrem∧Asc lt (arrOf st') lo (lo+z.2)∧(z.2=nrem∨lt (av (arrOf st') (lo+z.2)) (av (arrOf st') (lo+z.2-1))=true)) ⟨rfl,rfl,h1,rfl,hs⟩ ?_ ?_ ?_
  · rintro ⟨r,m⟩ u ⟨h1,h2,h3,h4,h5⟩
    dsimp only at h4
    exact ⟨h1,h2,h3,(by ac_rfl),h5,.inl (by ac_rfl)⟩
  · rintro ⟨r,m⟩ u ⟨rfl,h2,h3,h4,h5,h6⟩
    dsimp only at h2
    subst h2
    exact h m h3 h4 h5 h6
  · rintro i ⟨r,m⟩ u _ _ ⟨rfl,h2,h3,h4,h5⟩
    dsimp only at h2 h3 h4 h5
    refine wpS_bind (zcy hA hk gs e (by ac_rfl) (by ac_rfl) ?_)
    cases hc:lt (av (arrOf u) (lo+m)) (av (arrOf u) (lo+m-1))
    · exact wpS_pure ⟨rfl,rfl,(by ac_rfl),(by ac_rfl),yfK hO h5 (show lo<lo+m by lia) hc⟩
    · exact wpS_pure ⟨rfl,rfl,h3,(by ac_rfl),h5,.inr hc⟩
theorem ygq {st:SortSt} {lo nrem:Nat} {Q:Option Nat→SortSt→Prop} (hk:kindOf st=κ) (gs:∀x∈(arrOf st).toList,g x) (hz:lo+nrem≤(arrOf st).size) (h1:1≤nrem) (h:∀n st',1≤n→n≤nrem→Pm st st'→Bel (arrOf st) (arrOf st') lo→Asc lt (arrOf st') lo (lo+n)→Q (some n) st'):wpS (model prog w) A E s (countRun' lo nrem) Q st:=by
  have b0:Bel (arrOf st) (arrOf st) lo:=fun _ _=>rfl
  refine wpS_bind (ygK hA hO hk gs hz Pm.rfl (Nat.le_refl _) h1 (ygf hO) fun n n1 n2 a1 br=>?_)
  refine S_if (fun _=>wpS_pure (h _ _ n1 n2 Pm.rfl b0 a1)) fun c1=>?_
  have c1':=nbeq c1
  dsimp only at c1'
  have br:lt (av (arrOf st) (lo+n)) (av (arrOf st) (lo+n-1))=true:=br.resolve_left c1'
  extract_lets n4 q4 jp
  refine jpS (f:=jp ⟨⟩) (fun u=>Pm st u∧Bel (arrOf st) (arrOf u) lo∧Dsc lt (arrOf u) lo (lo+(n+1))) (fun key=>S_if (fun _=>wpS_bind (zcy hA hk gs Pm.rfl (by ac_rfl) (by ac_rfl) ?_)) fun c2=>key st ⟨Pm.rfl,b0,?_⟩) ?_
  · cases hr:lt (av (arrOf st) lo) (av (arrOf st) (lo+(none,n).2-1))
    rotate_left
    exact wpS_pure (h _ _ n1 n2 Pm.rfl b0 a1)
    refine wpS_bind (zfV fun st1 e em=>key st1 ⟨e,?_,?_⟩)
    · rw [em];exact Bel.mir _ (Nat.le_refl _) (by ac_rfl)
    have hz2:lo+n≤(arrOf st).size:=by lia
    dsimp only at em hr
    have like:∀u v,lo≤u→u<lo+n→lo≤v→v<lo+n→lt (av (arrOf st) u) (av (arrOf st) v)=false:=fun u v q1 q2 q3 q4=>by
      refine hO.trans (a1 v (lo+n-1) q3 (by lia) (by lia)) (hO.trans hr (a1 lo u (Nat.le_refl _) q1 q2))
    have d1:Dsc lt (arrOf st1) lo (lo+n):=by
      rw [em]
      exact yeO (fun u v q1 q2 q3=>like u v q1 (by lia) (by lia) q3) (Nat.le_refl _) hz2 (by lia) like
    refine zbO (j:=lo+n) hO d1 (by lia) ?_
    rw [em,zbJ hz2,zbJ hz2,if_pos (by lia),if_neg (by lia)]
    exact hO.trans (hO.asym br) (like _ _ (by lia) (by lia) (by lia) (by lia))
  · have n1':n=1:=by dsimp only at *;lia
    subst n1'
    exact zbO (j:=lo+1) hO (fun u v q1 q2 q3=>by rw [show u=v by lia];exact hO.refl _) (by lia) (hO.asym br)
  rintro st1 ⟨e,bl,ds⟩
  refine wpS_bind (wpS_lift (wpAny_rule ⟨rfl,?_⟩))
  refine wpS_bind (ybD (fun i z u=>Pm st u∧z.1=none∧1≤z.2.1∧z.2.1≤i∧z.2.2+1≤z.2.1∧Bel (arrOf st) (arrOf u) lo∧Dsc lt (arrOf u) lo (lo+z.2.1)∧∀x y,lo+z.2.1≤x+(z.2.2+1)→x<lo+z.2.1→lo+z.2.1≤y+(z.2.2+1)→y<lo+z.2.1→lt (av (arrOf u) x) (av (arrOf u) y)=false) (fun z u=>Pm st u∧z.1=none∧1≤z.2.1∧z.2.1≤nrem∧z.2.2+1≤z.2.1∧Bel (arrOf st) (arrOf u) lo∧Dsc lt (arrOf u) lo (lo+z.2.1)∧∀x y,lo+z.2.1≤x+(z.2.2+1)→x<lo+z.2.1→lo+z.2.1≤y+(z.2.2+1)→y<lo+z.2.1→lt (av (arrOf u) x) (av (arrOf u) y)=false) ⟨e,rfl,(by ac_rfl),Nat.le_refl _,(by ac_rfl),bl,ds,fun x y x1 x2 y1 y2=>by rw [show x=y by dsimp only at *;lia];exact hO.refl _⟩ ?_ ?_ ?_)
  · rintro ⟨r,m,q⟩ u ⟨h1,h2,h3,h4,h5⟩
    dsimp only at h4
    exact ⟨h1,h2,h3,(by ac_rfl),h5⟩
  · rintro ⟨r,m,q⟩ u ⟨e,h2,h3,h4,h5,h6,h7,h8⟩
    dsimp only at h2 h3 h4 h5 h6 h7 h8
    subst h2
    have hz2:lo+m≤(arrOf u).size:=by rw [e.size];lia
    refine S_if (fun _=>wpS_bind (zfV fun u1 e1 em1=>?_)) fun _=>?_
    have e2:=e.trans e1
    have b2:Bel (arrOf st) (arrOf u1) lo:=h6.trans (by rw [em1];exact Bel.mir _ (by ac_rfl) hz2)
    have d2:Dsc lt (arrOf u1) lo (lo+m):=by
      rw [em1]
      exact yeO h7 (by ac_rfl) hz2 (by ac_rfl) fun x y x1 x2 y1 y2=>h8 x y (by dsimp only at *;lia) x2 (by dsimp only at *;lia) y2
    have hz3:lo+m≤(arrOf u1).size:=by rw [e2.size];lia
    rotate_left
    have e2:=e
    have b2:=h6
    have d2:=h7
    have hz3:=hz2
    all_goals
      refine wpS_bind (zfV fun u2 e3 em2=>?_)
      have e4:=e2.trans e3
      have b3:=b2.trans (em2 ▸ Bel.mir _ (Nat.le_refl _) hz3)
      refine wpS_bind (ygK hA hO hk gs hz e4 h3 h4 (em2 ▸ ygk d2 hz3) fun n n1 n2 a2 _=>?_)
      exact wpS_pure (h _ _ n1 n2 e4 b3 a2)
  · rintro i ⟨r,m,q⟩ u _ _ ⟨e,h2,h3,h4,h5,h6,h7,h8⟩
    dsimp only at h2 h3 h4 h5 h6 h7 h8
    have hz2:lo+m≤(arrOf u).size:=by rw [e.size];lia
    refine wpS_bind (zcy hA hk gs e (by ac_rfl) (by ac_rfl) ?_)
    refine S_if (fun hc=>?_) fun hc=>?_
    rotate_left
    · refine wpS_bind (zcy hA hk gs e (by ac_rfl) (by ac_rfl) ?_)
      dsimp only at hc ⊢
      have hc:lt (av (arrOf u) (lo+m)) (av (arrOf u) (lo+m-1))=false:=by simpa using hc
      cases hd:lt (av (arrOf u) (lo+m-1)) (av (arrOf u) (lo+m))
      · refine wpS_pure ⟨e,rfl,(by ac_rfl),(by ac_rfl),(by ac_rfl),h6,zbO (j:=lo+m) hO h7 (by lia) hd,fun x y x1 x2 y1 y2=>?_⟩
        dsimp only at x1 x2 y1 y2
        have lk:∀x,lo+m≤x+(q+1)→x<lo+m→lt (av (arrOf u) x) (av (arrOf u) (lo+m))=false∧lt (av (arrOf u) (lo+m)) (av (arrOf u) x)=false:=fun x x1 x2=>⟨hO.trans hd (h8 _ _ x1 x2 (by lia) (by lia)),hO.trans (h8 _ _ (by lia) (by lia) x1 x2) hc⟩
        rcases Nat.lt_or_ge x (lo+m) with p1|p1
        · rcases Nat.lt_or_ge y (lo+m) with p2|p2
          · exact h8 x y (by lia) p1 (by lia) p2
          · rw [show y=lo+m by lia];exact (lk x (by lia) p1).1
        · rw [show x=lo+m by lia]
          rcases Nat.lt_or_ge y (lo+m) with p2|p2
          · exact (lk y (by lia) p2).2
          · rw [show y=lo+m by lia];exact hO.refl _
      · exact wpS_pure ⟨e,rfl,h3,(by ac_rfl),h5,h6,h7,h8⟩
    · dsimp only at hc
      have lowest:∀x,lo≤x→x<lo+m→lt (av (arrOf u) x) (av (arrOf u) (lo+m))=false:=fun x x1 x2=>hO.trans (hO.asym hc) (h7 x (lo+m-1) x1 (by lia) (by lia))
      have one:∀ {b:Array Keyed} (x y:Nat),lo+(m+1)≤x+(0+1)→x<lo+(m+1)→lo+(m+1)≤y+(0+1)→y<lo+(m+1)→lt (av b x) (av b y)=false:=fun x y x1 x2 y1 y2=>by rw [show x=y by lia];exact hO.refl _
      refine S_if (fun _=>wpS_bind (zfV fun u1 e1 em1=>?_)) fun _=>?_
      · refine wpS_pure ⟨e.trans e1,rfl,(by ac_rfl),(by ac_rfl),(by ac_rfl),h6.trans (by rw [em1];exact Bel.mir _ (by ac_rfl) hz2),?_,one⟩
        dsimp only at em1
        have d2:Dsc lt (arrOf u1) lo (lo+m):=by
          rw [em1]
          exact yeO h7 (by lia) hz2 (by lia) fun x y x1 x2 y1 y2=>h8 x y (by lia) x2 (by lia) y2
        refine zbO (j:=lo+m) hO d2 (by lia) ?_
        have x1:av (mirror (arrOf u) (lo+m-(q+1)) (lo+m) ((lo+m-(lo+m-(q+1)))/2)) (lo+m)=av (arrOf u) (lo+m):=by rw [zbJ hz2,if_neg (by lia)]
        rw [em1,x1,zbJ hz2]
        split
        · exact lowest _ (by lia) (by lia)
        · exact lowest _ (by lia) (by lia)
      · exact wpS_pure ⟨e,rfl,(by ac_rfl),(by ac_rfl),(by ac_rfl),h6,zbO (j:=lo+m) hO h7 (by lia) (hO.asym hc),one⟩
end
end L2
end
section
namespace L2
open PySem PySem.W PySem.Calls PyProof.Rows
local macro_rules | `(tactic| ac_rfl) => `(tactic| first | omega | (dsimp only; omega))
section
variable {prog:Program} {w:World} {A:Around} {E:Value→Shared→Prop} {s:Shared} {κ:SortKind}
variable {g:Keyed→Prop} {lt:Keyed→Keyed→Bool} (hA:AnsL prog w A s κ g lt) (hO:Ordr lt)
include hA hO
theorem yht {st:SortSt} {lo n ok:Nat} {Q:Bool→SortSt→Prop} (hk:kindOf st=κ) (gs:∀x∈(arrOf st).toList,g x) (hz:lo+n≤(arrOf st).size) (h1:1≤ok) (hok:ok≤n) (hs:Asc lt (arrOf st) lo (lo+ok)) (h:∀st',Pm st st'→Bel (arrOf st) (arrOf st') lo→Asc lt (arrOf st') lo (lo+n)→Q true st'):wpS (model prog w) A E s (binarySort' lo n ok) Q st:=by
  refine wpS_bind (ybD (fun i z u=>Pm st u∧z.1=none∧Bel (arrOf st) (arrOf u) lo∧Asc lt (arrOf u) lo (lo+i)) (fun z u=>Pm st u∧z.1=none∧Bel (arrOf st) (arrOf u) lo∧Asc lt (arrOf u) lo (lo+n)) ⟨Pm.rfl,rfl,fun _ _=>rfl,by rw [Nat.max_eq_left h1];exact hs⟩ ?_ ?_ ?_)
  · rintro z u ⟨e,h2,h3,h4⟩
    rw [Nat.max_eq_left h1,Nat.max_eq_right hok] at h4
    exact ⟨e,h2,h3,h4⟩
  · rintro ⟨r,z⟩ u ⟨e,h2,h3,h4⟩
    dsimp only at h2
    subst h2
    exact wpS_pure (h _ e h3 h4)
  · rintro k ⟨r,z⟩ u k1 k2 ⟨e,h2,h3,h4⟩
    have hu:lo+k<(arrOf u).size:=by rw [e.size];lia
    refine wpS_bind (ybD (fun i z v=>v=u∧z.1=none∧z.2.2≤k∧z.2.1≤z.2.2∧z.2.2+i≤z.2.1+k∧(∀t,t<z.2.1→lt (av (arrOf u) (lo+k)) (av (arrOf u) (lo+t))=false)∧∀t,z.2.2≤t→t<k→lt (av (arrOf u) (lo+t)) (av (arrOf u) (lo+k))=false) (fun z v=>v=u∧z.1=none∧z.2.1≤k∧(∀t,t<z.2.1→lt (av (arrOf u) (lo+k)) (av (arrOf u) (lo+t))=false)∧∀t,z.2.1≤t→t<k→lt (av (arrOf u) (lo+t)) (av (arrOf u) (lo+k))=false) ⟨rfl,rfl,Nat.le_refl _,Nat.zero_le _,(by ac_rfl),fun t ht=>absurd ht (Nat.not_lt_zero _),fun t t1 t2=>absurd t2 (by dsimp only at t1;lia)⟩ ?_ ?_ ?_)
    · rintro ⟨r,l,m⟩ v ⟨h1,h2,h3,h4,h5,h6,h7⟩
      dsimp only at h3 h4 h5
      exact ⟨h1,h2,(by ac_rfl),h6,fun t t1 t2=>h7 t (by dsimp only at *;lia) t2⟩
    · rintro ⟨r,l,m⟩ v ⟨rfl,h2,hl,h6,h7⟩
      dsimp only at h2 hl h6 h7
      subst h2
      refine wpS_bind (ygU fun u1 e1 em=>wpS_pure ⟨e.trans e1,rfl,?_,?_⟩)
      · refine h3.trans fun t ht=>?_
        rw [em,yfg hu (by lia),if_neg (by lia),if_neg (by lia)]
      · intro x y x1 x2 x3
        dsimp only at em
        have hd:lo+k-(lo+k-(lo+l))=lo+l:=by lia
        rw [em,yfg hu (by lia),yfg hu (by lia),hd]
        by_cases c1:x<lo+l
        · rw [if_neg (show ¬ x=lo+l by lia),if_neg (show ¬ (lo+l<x∧x≤lo+k) by lia)]
          by_cases c2:y<lo+l
          · rw [if_neg (by lia),if_neg (by lia)]
            exact h4 x y x1 x2 (by lia)
          · by_cases c3:y=lo+l
            · rw [if_pos c3]
              have:=h6 (x-lo) (by lia)
              rwa [show lo+(x-lo)=x by lia] at this
            · rw [if_neg c3,if_pos (by lia)]
              exact h4 x (y-1) x1 (by lia) (by lia)
        · by_cases c3:x=lo+l
          · rw [if_pos c3]
            by_cases c4:y=lo+l
            · rw [if_pos c4];exact hO.refl _
            · rw [if_neg c4,if_pos (by lia)]
              have:=h7 (y-1-lo) (by lia) (by lia)
              rwa [show lo+(y-1-lo)=y-1 by lia] at this
          · rw [if_neg c3,if_pos (show lo+l<x∧x≤lo+k by lia),if_neg (by lia),if_pos (by lia)]
            exact h4 (x-1) (y-1) (by lia) (by lia) (by lia)
    · rintro i ⟨r,l,m⟩ v _ _ ⟨rfl,h2,h5,h6,h7,h8,h9⟩
      dsimp only at h2 h5 h6 h7 h8 h9
      refine S_if (fun c1=>wpS_pure ⟨rfl,rfl,(by ac_rfl),h8,fun t t1 t2=>h9 t (by dsimp only at *;lia) t2⟩) fun c1=>?_
      dsimp only at c1
      refine wpS_bind (zcy hA hk gs e (by ac_rfl) (by ac_rfl) ?_)
      cases hc:lt (av (arrOf v) (lo+k)) (av (arrOf v) (lo+(l+m)/2))
      · refine wpS_pure ⟨rfl,rfl,h5,(by ac_rfl),(by ac_rfl),fun t ht=>?_,h9⟩
        dsimp only at ht
        exact hO.trans (h4 (lo+t) (lo+(l+m)/2) (by lia) (by lia) (by lia)) hc
      · refine wpS_pure ⟨rfl,rfl,(by ac_rfl),(by ac_rfl),(by ac_rfl),h8,fun t t1 t2=>?_⟩
        dsimp only at t1
        exact hO.trans (hO.asym hc) (h4 (lo+(l+m)/2) (lo+t) (by lia) (by lia) (by lia))
end
end L2
end
section
namespace L2
open PySem PySem.W PySem.Calls PyProof.Rows
local macro_rules | `(tactic| ac_rfl) => `(tactic| first | omega | (dsimp only; omega))
noncomputable def ChS (lt:Keyed→Keyed→Bool) (a:Array Keyed):List (Nat×Nat×Nat)→Nat→Nat→Prop
  | [],i,j=>i=j
  | x::r,i,j=>x.1=i∧1≤x.2.1∧Asc lt a i (i+x.2.1)∧ChS lt a r (i+x.2.1) j
section
variable {lt:Keyed→Keyed→Bool} {a:Array Keyed}
theorem ydb:∀ {u v:List (Nat×Nat×Nat)} {i j:Nat},ChS lt a (u++v) i j↔∃c,ChS lt a u i c∧ChS lt a v c j
  | [],v,i,j=>⟨fun h=>⟨i,rfl,h⟩,fun ⟨c,e,h⟩=>by cases e;exact h⟩
  | x::u,v,i,j=>by
    show (x.1=i∧1≤x.2.1∧_∧ChS lt a (u++v) (i+x.2.1) j)↔∃c,(x.1=i∧1≤x.2.1∧_∧ChS lt a u (i+x.2.1) c)∧ChS lt a v c j
    rw [ydb]
    exact ⟨fun ⟨h1,h2,h5,c,h3,h4⟩=>⟨c,⟨h1,h2,h5,h3⟩,h4⟩,fun ⟨c,⟨h1,h2,h5,h3⟩,h4⟩=>⟨h1,h2,h5,c,h3,h4⟩⟩
theorem ydD:∀ {u:List (Nat×Nat×Nat)} {i j:Nat},ChS lt a u i j→i+u.length≤j
  | [],i,j,h=>Nat.le_of_eq h
  | x::u,i,j,⟨_,h1,_,h⟩=>by
    have:=ydD h
    rw [List.length_cons];lia
theorem zbR {b:Array Keyed} {i j:Nat} (h:Asc lt a i j) (e:∀t,i≤t→t<j→av b t=av a t):Asc lt b i j:=fun u v h1 h2 h3=>by
  rw [e u h1 (by lia),e v (by lia) h3];exact h u v h1 h2 h3
theorem zbS {b:Array Keyed}:∀ {u:List (Nat×Nat×Nat)} {i j:Nat},ChS lt a u i j→(∀t,i≤t→t<j→av b t=av a t)→ChS lt b u i j
  | [],i,j,h,_=>h
  | x::u,i,j,⟨h1,h2,h3,h4⟩,e=>by
    have:=ydD h4
    exact ⟨h1,h2,zbR h3 fun t t1 t2=>e t t1 (by lia),zbS h4 fun t t1 t2=>e t (by lia) t2⟩
theorem yfj {f:Nat×Nat×Nat→Nat×Nat×Nat} (hf:∀x,(f x).1=x.1∧(f x).2.1=x.2.1):∀ {l:List (Nat×Nat×Nat)} {k i j:Nat},ChS lt a l i j→ChS lt a (l.modify k f) i j
  | [],k,i,j,h=>by cases k <;> exact h
  | x::l,0,i,j,h=>by
    show (f x).1=i∧1≤(f x).2.1∧Asc lt a i (i+(f x).2.1)∧ChS lt a l (i+(f x).2.1) j
    rw [(hf x).1,(hf x).2]
    exact h
  | x::l,k+1,i,j,⟨h1,h2,h5,h3⟩=>⟨h1,h2,h5,yfj hf h3⟩
theorem yed {p:Array (Nat×Nat×Nat)} {i n k:Nat} (h:ChS lt a p.toList 0 i) (hn:1≤n) (hs:Asc lt a i (i+n)):ChS lt a (p.push (i,n,k)).toList 0 (i+n):=by
  rw [Array.toList_push,ydb]
  exact ⟨i,h,rfl,hn,hs,rfl⟩
end
theorem zgj {α:Type} {l u v:List α} {x y z:α} {n:Nat} (e:l=u++x::y::v) (h:u.length=n):(l.set n z).eraseIdx (n+1)=u++z::v:=by
  subst e h
  rw [List.set_append_right _ _ (Nat.le_refl _),List.eraseIdx_append_of_length_le (Nat.le_succ _),Nat.sub_self,show u.length+1-u.length=1 by lia]
  rfl
theorem zc2 {α:Type} (q:Nat):∀(l:List α) (k:Nat) (a:Array α),q+k+l.length≤a.size→((l.zipIdx k).foldl (fun a x=>a.setIfInBounds (q+x.2) x.1) a).toList=a.toList.take (q+k)++l++a.toList.drop (q+k+l.length)
  | [],k,a,_=>by simp
  | x::l,k,a,h=>by
    rw [List.length_cons] at h
    rw [List.zipIdx_cons,List.foldl_cons,zc2 q l (k+1) _ (by rw [Array.size_setIfInBounds];lia),Array.toList_setIfInBounds]
    have hl:q+k<a.toList.length:=by rw [Array.length_toList];lia
    rw [show q+(k+1)=q+k+1 by lia,List.length_cons,show q+k+1+l.length=q+k+(l.length+1) by lia]
    rw [List.take_set,List.drop_set_of_lt (by lia),List.take_succ_eq_append_getElem hl,List.set_append_right _ _ (by rw [List.length_take];lia),List.length_take]
    rw [show q+k-min (q+k) a.toList.length=0 by lia]
    simp
theorem yfD {α:Type} {a:Array α} {i j k:Nat} {m:Array α} (h1:i≤j) (h2:j≤k) (h3:k≤a.size) (h:m.toList.Perm ((a.extract i j).toList++(a.extract j k).toList)):((m.toList.zipIdx).foldl (fun a x=>a.setIfInBounds (i+x.2) x.1) a).toList.Perm a.toList:=by
  have hl:m.toList.length=k-i:=by
    rw [h.length_eq,List.length_append,Array.length_toList,Array.length_toList,Array.size_extract,Array.size_extract];lia
  rw [zc2 i m.toList 0 a (by lia),hl,show i+0+(k-i)=k by lia,Nat.add_zero]
  have e:a.toList=a.toList.take i++((a.extract i j).toList++(a.extract j k).toList)++a.toList.drop k:=by
    rw [←List.append_assoc,←zcA a h1,←zcA a h2,List.take_append_drop]
  conv=>rhs;rw [e]
  exact List.Perm.append_right _ (List.Perm.append_left _ h)
theorem zgg {lt:Keyed→Keyed→Bool} {a:Array Keyed} {p:Array (Nat×Nat×Nat)} {i b:Nat} (h:ChS lt a p.toList 0 b) (hi:i+1<p.size):∃sa na pa sb nb pb,p[i]?=some (sa,na,pa)∧p[i+1]?=some (sb,nb,pb)∧sb=sa+na∧1≤na∧1≤nb∧sb+nb≤b∧Asc lt a sa (sa+na)∧Asc lt a sb (sb+nb)∧((p.setIfInBounds i (sa,na+nb,pa)).eraseIdxIfInBounds (i+1)).size+1=p.size∧
    ∀a':Array Keyed,(∀t,t<sa∨sb+nb≤t→av a' t=av a t)→Asc lt a' sa (sa+(na+nb))→ChS lt a' ((p.setIfInBounds i (sa,na+nb,pa)).eraseIdxIfInBounds (i+1)).toList 0 b:=by
  have hl:i+1<p.toList.length:=by rw [Array.length_toList];exact hi
  have h1:p.toList=p.toList.take i++p.toList[i]::p.toList[i+1]::p.toList.drop (i+1+1):=by
    rw [←List.drop_eq_getElem_cons hl,←List.drop_eq_getElem_cons (by lia),List.take_append_drop]
  rw [h1,ydb] at h
  obtain ⟨c,h2,h3,h4,h8,h5,h6,h9,h7⟩:=h
  have e0:p[i]?=some p.toList[i]:=by
    rw [Array.getElem?_eq_getElem (by lia)];rfl
  have e1:p[i+1]?=some p.toList[i+1]:=by
    rw [Array.getElem?_eq_getElem hi];rfl
  have c2:=ydD h2
  have c7:=ydD h7
  refine ⟨p.toList[i].1,p.toList[i].2.1,p.toList[i].2.2,p.toList[i+1].1,p.toList[i+1].2.1,p.toList[i+1].2.2,e0,e1,by rw [h5,h3],h4,h6,by lia,by rw [h3];exact h8,by rw [h5];exact h9,?_,fun a' same as=>?_⟩
  · rw [←Array.length_toList,Array.toList_eraseIdxIfInBounds,Array.toList_setIfInBounds,List.length_eraseIdx_of_lt (by rw [List.length_set];exact hl),List.length_set,Array.length_toList]
    lia
  · rw [Array.toList_eraseIdxIfInBounds,Array.toList_setIfInBounds]
    have hlt:(p.toList.take i).length=i:=by rw [List.length_take];lia
    rw [zgj h1 hlt,ydb]
    rw [h3] at as
    refine ⟨c,zbS h2 fun t t1 t2=>same t (by lia),h3,by dsimp only;lia,as,?_⟩
    dsimp only
    rw [←Nat.add_assoc]
    exact zbS h7 fun t t1 t2=>same t (by lia)
theorem yeQ {m a:Array Keyed} {q:Nat} (h:q+m.size≤a.size) (t:Nat):av ((m.toList.zipIdx).foldl (fun a x=>a.setIfInBounds (q+x.2) x.1) a) t=if t<q then av a t else if t<q+m.size then av m (t-q) else av a t:=by
  have e:=zc2 q m.toList 0 a (by rw [Array.length_toList];lia)
  rw [Array.length_toList,Nat.add_zero] at e
  have g:∀(b:Array Keyed) k,av b k=(b.toList[k]?).getD (Value.none,Value.none):=fun b k=>by rw [av_q,Array.getElem?_toList]
  rw [g,e]
  by_cases c1:t<q
  · rw [if_pos c1,List.append_assoc,List.getElem?_append_left (by rw [List.length_take,Array.length_toList];lia),List.getElem?_take,if_pos c1,←g]
  · rw [if_neg c1]
    by_cases c2:t<q+m.size
    · rw [if_pos c2,List.getElem?_append_left (by rw [List.length_append,List.length_take,Array.length_toList,Array.length_toList];lia),List.getElem?_append_right (by rw [List.length_take,Array.length_toList];lia),List.length_take,Array.length_toList,show min q a.size=q by lia,←g]
    · rw [if_neg c2,List.getElem?_append_right (by rw [List.length_append,List.length_take,Array.length_toList,Array.length_toList];lia),List.length_append,List.length_take,Array.length_toList,Array.length_toList,List.getElem?_drop,show q+m.size+(t-(min q a.size+m.size))=t by lia,←g]
theorem zef {a:Array Keyed} {i j u:Nat} (h:i+u<j) (hj:j≤a.size):av (a.extract i j) u=av a (i+u):=by
  rw [←ya8 (by rw [Array.size_extract];lia),←ya8 (by lia),Array.getElem_extract]
theorem zd3 {lt:Keyed→Keyed→Bool} {a:Array Keyed} {i j lo hi:Nat} (h:Asc lt a lo hi) (h1:lo≤i) (h2:j≤hi) (hj:j≤a.size):SrtL lt (a.extract i j).toList:=by
  unfold SrtL
  rw [List.pairwise_iff_getElem]
  intro u v hu hv huv
  rw [Array.length_toList,Array.size_extract] at hu hv
  have g:∀ {k:Nat} (q:k<(a.extract i j).toList.length),(a.extract i j).toList[k]=av a (i+k):=fun {k} q=>by
    rw [Array.length_toList,Array.size_extract] at q
    rw [←zef (j:=j) (by lia) hj,←ya8 (by rw [Array.size_extract];lia)];rfl
  rw [g,g]
  exact h _ _ (by lia) (by lia) (by lia)
section
variable {prog:Program} {w:World} {A:Around} {E:Value→Shared→Prop} {s:Shared} {κ:SortKind}
theorem zgw {st x:SortSt} {Q:PUnit→SortSt→Prop} (h:Q ⟨⟩ x):wpS (model prog w) A E s (set x:StateT SortSt Sem PUnit) Q st:=by
  unfold wpS;rw [StateT.run_set];exact wpAny_pure ⟨rfl,h⟩
variable {g:Keyed→Prop} {lt:Keyed→Keyed→Bool} (hA:AnsL prog w A s κ g lt) (hO:Ordr lt)
include hA hO
theorem zeN {st:SortSt} {i b:Nat} {Q:Bool→SortSt→Prop} (hk:kindOf st=κ) (gs:∀x∈(arrOf st).toList,g x) (hf:failedOf st=none) (hp:ChS lt (arrOf st) (pendingOf st).toList 0 b) (hb:b≤(arrOf st).size) (hi:i+1<(pendingOf st).size)
    (h:∀st':SortSt,kindOf st'=κ→failedOf st'=none→(arrOf st').toList.Perm (arrOf st).toList→ChS lt (arrOf st') (pendingOf st').toList 0 b→(pendingOf st').size+1=(pendingOf st).size→(∀t,b≤t→av (arrOf st') t=av (arrOf st) t)→Q true st'):wpS (model prog w) A E s (mergeAt' i) Q st:=by
  obtain ⟨sa,na,pa,sb,nb,pb,e0,e1,rfl,h1,h2,h3,ax,ay,hsz,h4⟩:=zgg hp hi
  refine wpS_bind (wpS_get ?_)
  dsimp only
  rw [show (pendingOf st)[i]?=_ from e0,show (pendingOf st)[i+1]?=_ from e1]
  refine wpS_bind (zgw ?_)
  have r1:sa+na<(arrOf st).size:=by lia
  have joined:lt (av (arrOf st) (sa+na)) (av (arrOf st) (sa+na-1))=false→Asc lt (arrOf st) sa (sa+(na+nb)):=fun q u v x1 x2 x3=>by
    rcases Nat.lt_or_ge v (sa+na) with c|c
    · exact ax u v x1 x2 c
    · rcases Nat.lt_or_ge u (sa+na) with c'|c'
      · exact hO.trans (hO.trans (ax u (sa+na-1) x1 (by lia) (by lia)) q) (ay (sa+na) v (Nat.le_refl _) c (by lia))
      · exact ay u v c' x2 (by lia)
  have whole:lt (av (arrOf st) (sa+na)) (av (arrOf st) (sa+na-1))=false→wpS (model prog w) A E s (pure true) Q (SortSt.mk' (kindOf st) (arrOf st) (((pendingOf st).setIfInBounds i (sa,na+nb,pa)).eraseIdxIfInBounds (i+1)) (gallopOf st) (failedOf st)):=fun q=>wpS_pure (h _ hk hf (.refl _) (h4 _ (fun _ _=>rfl) (joined q)) hsz fun _ _=>rfl)
  refine wpS_bind (yaw r1 ?_)
  refine wpS_bind (ybx hA hk (gd gs r1) gs (base:=sa) (n:=na) (hint:=0) (Nat.le_of_lt r1) h1 (zcV hO fun u v x1 x2=>ax _ _ (by lia) (by lia) (by lia)) fun k hk1 hk2 hk3=>?_)
  rw [ya8 r1] at hk2 hk3
  refine S_if (fun e=>whole ?_) fun c1=>?_
  · have e:=eq_of_beq e
    have:=hk2 (na-1) (by lia)
    rw [show sa+(na-1)=sa+na-1 by lia] at this
    simpa [bB] using this
  have c1':=nbeq c1
  have r2:sa+k+(na-k)-1<(arrOf st).size:=by lia
  have e2:sa+k+(na-k)-1=sa+na-1:=by lia
  refine wpS_bind (yaw r2 ?_)
  refine wpS_bind (ybx hA hk (gd gs r2) gs (base:=sa+na) (n:=nb) (hint:=nb-1) (Nat.le_trans h3 hb) (by lia) (zcV hO fun u v x1 x2=>ay _ _ (by lia) (by lia) (by lia)) fun k2 hk4 hk5 hk6=>?_)
  rw [ya8 r2,e2] at hk5 hk6
  refine S_if (fun e=>whole ?_) fun c2=>?_
  · have e:=eq_of_beq e
    have:=hk6 0 (by lia) (by lia)
    rw [Nat.add_zero] at this
    simpa [bB] using this
  have c2':=nbeq c2
  have gx:∀i j,∀x∈((arrOf st).extract i j).toList,g x:=fun i j x hx=>gs x (by
    rw [Array.toList_extract,List.extract_eq_take_drop] at hx
    exact List.mem_of_mem_drop (List.mem_of_mem_take hx))
  have z1:((arrOf st).extract (sa+k) (sa+na)).size=na-k:=by rw [Array.size_extract];lia
  have z2:((arrOf st).extract (sa+na) (sa+na+k2)).size=k2:=by rw [Array.size_extract];lia
  have x1:0<((arrOf st).extract (sa+k) (sa+na)).size:=by lia
  have x2:0<((arrOf st).extract (sa+na) (sa+na+k2)).size:=by lia
  have sx:SrtL lt ((arrOf st).extract (sa+k) (sa+na)).toList:=zd3 ax (by lia) (Nat.le_refl _) (by lia)
  have sy:SrtL lt ((arrOf st).extract (sa+na) (sa+na+k2)).toList:=zd3 ay (Nat.le_refl _) (by lia) (by lia)
  have ex0:av ((arrOf st).extract (sa+k) (sa+na)) 0=av (arrOf st) (sa+k):=zef (by lia) (by lia)
  have ey0:av ((arrOf st).extract (sa+na) (sa+na+k2)) 0=av (arrOf st) (sa+na):=zef (by lia) (by lia)
  have hF:lt (av ((arrOf st).extract (sa+k) (sa+na)) 0) (av ((arrOf st).extract (sa+na) (sa+na+k2)) 0)=false:=by
    rw [ex0,ey0]
    exact hO.asym (by simpa [bB] using hk3 k (Nat.le_refl _) (by lia))
  have hL:∀y∈((arrOf st).extract (sa+na) (sa+na+k2)).toList,lt (av ((arrOf st).extract (sa+k) (sa+na)) (((arrOf st).extract (sa+k) (sa+na)).size-1)) y=false:=fun y hy=>by
    obtain ⟨u,hu,_,rfl⟩:=zda hy
    rw [z1,zef (by lia) (by lia),show sa+k+(na-k-1)=sa+na-1 by lia]
    exact hO.asym (by simpa [bB] using hk5 u hu)
  have fin:∀(r:Array Keyed) (st1:SortSt),Fin2 lt ((arrOf st).extract (sa+k) (sa+na)) ((arrOf st).extract (sa+na) (sa+na+k2)) r→Sm (SortSt.mk' (kindOf st) (arrOf st) (((pendingOf st).setIfInBounds i (sa,na+nb,pa)).eraseIdxIfInBounds (i+1)) (gallopOf st) (failedOf st)) st1→wpS (model prog w) A E s (pure (failedOf st1).isNone) Q (SortSt.mk' (kindOf st1) ((r.toList.zipIdx).foldl (fun a x=>a.setIfInBounds (sa+k+x.2) x.1) (arrOf st1)) (pendingOf st1) (gallopOf st1) (failedOf st1)):=by
    intro r st1 ⟨hr,hs⟩ ⟨f1,f2,f3,f4⟩
    have zr:r.size=na-k+k2:=by
      have:=hr.length_eq
      rwa [List.length_append,Array.length_toList,Array.length_toList,Array.length_toList,z1,z2] at this
    rw [show failedOf st1=none from f4.trans hf]
    have f2':arrOf st1=arrOf st:=f2
    have vr:∀t,t<na-k+k2→(∃u,sa+k≤u∧u<sa+na∧av r t=av (arrOf st) u)∨∃u,sa+na≤u∧u<sa+na+k2∧av r t=av (arrOf st) u:=fun t ht=>by
      have hm:av r t∈r.toList:=by rw [←ya8 (show t<r.size by lia)];simp
      rcases List.mem_append.mp (hr.mem_iff.mp hm) with hm|hm
      · obtain ⟨u,u1,u2,_,e⟩:=yce (by lia) hm
        exact .inl ⟨u,u1,u2,e⟩
      · obtain ⟨u,u1,u2,_,e⟩:=yce (by lia) hm
        exact .inr ⟨u,u1,u2,e⟩
    refine wpS_pure (h _ (f1.trans hk) rfl ?_ ?_ ?_ fun t ht=>?_)
    · show (List.foldl _ (arrOf st1) _).toList.Perm _
      rw [f2']
      exact yfD (by lia) (by lia) (by lia) hr
    · show ChS lt (List.foldl _ (arrOf st1) _) (pendingOf st1).toList 0 b
      rw [show pendingOf st1=_ from f3,f2']
      have al:=yeQ (m:=r) (a:=arrOf st) (q:=sa+k) (by lia)
      refine h4 _ (fun t ht=>?_) fun u v u1 u2 u3=>?_
      · rw [al,zr]
        rcases ht with ht|ht
        · rw [if_pos (by lia)]
        · rw [if_neg (by lia),if_neg (by lia)]
      · rw [al,al,zr]
        have lowR:∀u,sa≤u→u<sa+k→∀t,t<na-k+k2→lt (av r t) (av (arrOf st) u)=false:=fun u u1 u2 t ht=>by
          have hu:lt (av (arrOf st) (sa+na)) (av (arrOf st) u)=false:=by
            have:=hk2 (u-sa) (by lia)
            rw [show sa+(u-sa)=u by lia] at this
            simpa [bB] using this
          rcases vr t ht with ⟨x,x1,x2,e⟩ | ⟨x,x1,x2,e⟩
          · rw [e];exact ax u x u1 (by lia) x2
          · rw [e];exact hO.trans hu (ay (sa+na) x (Nat.le_refl _) x1 (by lia))
        have highR:∀v,sa+na+k2≤v→v<sa+na+nb→∀t,t<na-k+k2→lt (av (arrOf st) v) (av r t)=false:=fun v v1 v2 t ht=>by
          have hv:lt (av (arrOf st) v) (av (arrOf st) (sa+na-1))=false:=by
            have:=hk6 (v-(sa+na)) (by lia) (by lia)
            rw [show sa+na+(v-(sa+na))=v by lia] at this
            simpa [bB] using this
          rcases vr t ht with ⟨x,x1,x2,e⟩ | ⟨x,x1,x2,e⟩
          · rw [e];exact hO.trans (ax x (sa+na-1) (by lia) (by lia) (by lia)) hv
          · rw [e];exact ay x v (by lia) (by lia) (by lia)
        have lowH:∀u v,sa≤u→u<sa+k→sa+na+k2≤v→v<sa+na+nb→lt (av (arrOf st) v) (av (arrOf st) u)=false:=fun u v u1 u2 v1 v2=>hO.trans (lowR u u1 u2 0 (by lia)) (highR v v1 v2 0 (by lia))
        by_cases p1:u<sa+k
        · rw [if_pos p1]
          by_cases p2:v<sa+k
          · rw [if_pos p2];exact ax u v u1 u2 (by lia)
          · rw [if_neg p2]
            by_cases p3:v<sa+k+(na-k+k2)
            · rw [if_pos p3];exact lowR u u1 p1 _ (by lia)
            · rw [if_neg p3];exact lowH u v u1 p1 (by lia) (by lia)
        · rw [if_neg p1,if_neg (show ¬ v<sa+k by lia)]
          by_cases p2:u<sa+k+(na-k+k2)
          · rw [if_pos p2]
            by_cases p3:v<sa+k+(na-k+k2)
            · rw [if_pos p3];exact ydH hO hs (by lia) (by lia)
            · rw [if_neg p3];exact highR v (by lia) (by lia) _ (by lia)
          · rw [if_neg p2,if_neg (by lia)]
            exact ay u v (by lia) u2 (by lia)
    · show (pendingOf st1).size+1=_
      rw [show pendingOf st1=_ from f3]
      exact hsz
    · show av (List.foldl _ (arrOf st1) _) t=_
      rw [f2',yeQ (m:=r) (a:=arrOf st) (q:=sa+k) (by lia),zr,if_neg (by lia),if_neg (by lia)]
  refine S_if (fun _=>?_) fun _=>?_
  · refine wpS_bind (zeS hA hO hk (gx _ _) (gx _ _) x1 x2 sx sy hF hL fun r st1 hr e=>?_)
    exact wpS_bind (wpS_modify (wpS_bind (wpS_get (fin r st1 hr e))))
  · refine wpS_bind (zfg hA hO hk (gx _ _) (gx _ _) x1 x2 sx sy (fun y hy=>?_) hL fun r st1 hr e=>?_)
    · refine yb5 hO sx (i:=0) x1 ?_ y (by rw [List.drop_zero];exact hy)
      rw [ya8 x1];exact hF
    · exact wpS_bind (wpS_modify (wpS_bind (wpS_get (fin r st1 hr e))))
end
end L2
end
section
namespace L2
open PySem PySem.W PySem.Calls PyProof.Rows
local macro_rules | `(tactic| ac_rfl) => `(tactic| first | omega | (dsimp only; omega))
theorem yg5 {c:Prop} [Decidable c] {n:Nat} (h:¬ n≤1):(if c then n-2-1 else n-2)+1<n:=by
  split <;> lia
noncomputable def Rn (lt:Keyed→Keyed→Bool) (κ:SortKind) (st0:SortSt) (b:Nat) (st:SortSt):Prop:=kindOf st=κ∧failedOf st=none∧(arrOf st).toList.Perm (arrOf st0).toList∧ChS lt (arrOf st) (pendingOf st).toList 0 b∧b≤(arrOf st0).size
section
variable {prog:Program} {w:World} {A:Around} {E:Value→Shared→Prop} {s:Shared} {κ:SortKind}
variable {g:Keyed→Prop} {lt:Keyed→Keyed→Bool} (hA:AnsL prog w A s κ g lt) (hO:Ordr lt)
include hA hO
theorem ygV {st:SortSt} {Q:Unit→SortSt→Prop} (hk:kindOf st=κ) (gs:∀x∈(arrOf st).toList,g x) (hf:failedOf st=none) (hp:pendingOf st = #[])
    (h:∀st':SortSt,failedOf st'=none→(arrOf st').toList.Perm (arrOf st).toList→SrtL lt (arrOf st').toList→Q () st'):wpS (model prog w) A E s sortRuns' Q st:=by
  have merge:∀(b i:Nat) (u:SortSt) {Q:Bool→SortSt→Prop},Rn lt κ st b u→i+1<(pendingOf u).size→(∀v,Rn lt κ st b v→(pendingOf v).size+1=(pendingOf u).size→(∀t,b≤t→av (arrOf v) t=av (arrOf u) t)→Q true v)→wpS (model prog w) A E s (mergeAt' i) Q u:=fun b i u Q R hi k=>zeN hA hO R.1 (fun x hx=>gs x (R.2.2.1.mem_iff.mp hx)) R.2.1 R.2.2.2.1 (by
      have:=R.2.2.1.length_eq
      rw [Array.length_toList,Array.length_toList] at this
      rw [this]
      exact R.2.2.2.2) hi fun v h1 h2 h3 h4 h5 h6=>k v ⟨h1,h2,h3.trans R.2.2.1,h4,R.2.2.2.2⟩ h5 h6
  refine wpS_bind (wpS_get ?_)
  refine wpS_bind (ybD (fun i z u=>z.1=none∧i≤z.2∧Rn lt κ st z.2 u) (fun z u=>z.1=none∧z.2=(arrOf st).size∧Rn lt κ st z.2 u) ⟨rfl,Nat.zero_le _,hk,hf,.refl _,?_,Nat.zero_le _⟩ ?_ ?_ ?_)
  · rw [hp];rfl
  · rintro ⟨r,lo⟩ u ⟨e1,e2,R⟩
    refine ⟨e1,Nat.le_antisymm R.2.2.2.2 (Nat.le_trans ?_ e2),R⟩
    show (arrOf st).size≤max 0 (arrOf st).size
    lia
  · rintro ⟨r,lo⟩ u ⟨e1,e2,R⟩
    dsimp only at e1 e2
    subst e1
    have pl:=ydD R.2.2.2.1
    rw [Array.length_toList] at pl
    refine wpS_bind (ybD (fun i z u=>z.1=none∧(pendingOf u).size+i≤(arrOf st).size∧Rn lt κ st lo u) (fun z u=>z.1=none∧(pendingOf u).size≤1∧Rn lt κ st lo u) ⟨rfl,by dsimp only at pl;lia,R⟩ ?_ ?_ ?_)
    · rintro ⟨r,z⟩ u ⟨e1,e3,R⟩
      refine ⟨e1,?_,R⟩
      have e3:(pendingOf u).size+max 0 (arrOf st).size≤(arrOf st).size:=e3
      lia
    · rintro ⟨r,z⟩ u ⟨e1,e3,R1,R2,R3,R4,R5⟩
      dsimp only at e1
      subst e1
      refine wpS_pure (h _ R2 R3 ?_)
      have sz:(arrOf u).size=(arrOf st).size:=by
        have:=R3.length_eq
        rwa [Array.length_toList,Array.length_toList] at this
      have as:Asc lt (arrOf u) 0 (arrOf u).size:=by
        rw [sz,←e2]
        rw [←Array.length_toList] at e3
        generalize (pendingOf u).toList=l at e3 R4
        rcases l with _ | ⟨x,_ | ⟨y,l⟩⟩
        · have R4:0=lo:=R4
          exact fun _ v _ _ h3=>absurd h3 (by lia)
        · obtain ⟨r1,r2,r3,r4⟩:=R4
          have r4:0+x.2.1=lo:=r4
          rw [←r4];exact r3
        · rw [List.length_cons,List.length_cons] at e3;lia
      have:=zd3 as (Nat.le_refl _) (Nat.le_refl _) (Nat.le_refl _)
      rwa [Array.extract_size] at this
    · rintro i ⟨r,z⟩ u _ _ ⟨e1,e3,R⟩
      refine wpS_bind (wpS_get ?_)
      refine S_if (fun c1=>wpS_pure ⟨rfl,c1,R⟩) fun c1=>?_
      have c2:¬ (pendingOf u).size≤1:=c1
      refine wpS_bind (merge _ _ _ R ?_ (fun v R hs _=>wpS_pure ⟨rfl,by lia,R⟩))
      exact yg5 c2
  · rintro i ⟨r,lo⟩ u _ _ ⟨e1,ei,R1,R2,R3,R4,R5⟩
    dsimp only at R4 R5 ei
    refine S_if (fun c1=>wpS_pure ⟨rfl,Nat.le_antisymm R5 c1,R1,R2,R3,R4,R5⟩) fun c1=>?_
    dsimp only at c1
    have sz:(arrOf u).size=(arrOf st).size:=by
      have:=R3.length_eq
      rwa [Array.length_toList,Array.length_toList] at this
    refine wpS_bind (ygq hA hO R1 (fun x hx=>gs x (R3.mem_iff.mp hx)) ?_ ?_ fun n u1 n1 n2 e bel asc=>?_)
    · show lo+((arrOf st).size-lo)≤(arrOf u).size
      have c2:¬ lo≥(arrOf st).size:=c1
      lia
    · show 1≤(arrOf st).size-lo
      have c2:¬ lo≥(arrOf st).size:=c1
      lia
    have n3:n≤(arrOf st).size-lo:=n2
    have c3:¬ lo≥(arrOf st).size:=c1
    have U:Rn lt κ st lo u1:=⟨e.1.trans R1,e.2.2.1.trans R2,e.2.2.2.trans R3,by rw [e.2.1];exact zbS R4 fun t _ t2=>bel t t2,R5⟩
    refine S_if (fun c2=>?_) fun _=>?_
    refine wpS_bind (wpS_lift (wpAny_rule ⟨rfl,?_⟩))
    refine wpS_bind (yht hA hO U.1 (fun x hx=>gs x (U.2.2.1.mem_iff.mp hx)) ?_ n1 ?_ asc fun v e2 bel2 asc2=>?_)
    · rw [e.size,sz]
      show lo+min ((arrOf st).size-lo) _≤_
      lia
    · have c2':n<minRun' (arrOf st).size (arrOf st).size 0:=c2
      show n≤min ((arrOf st).size-lo) (minRun' (arrOf st).size (arrOf st).size 0)
      lia
    have V:Rn lt κ st lo v:=⟨e2.1.trans U.1,e2.2.2.1.trans U.2.1,e2.2.2.2.trans U.2.2.1,by rw [e2.2.1];exact zbS U.2.2.2.1 fun t _ t2=>bel2 t t2,R5⟩
    have m1:1≤min ((arrOf st).size-lo) (minRun' (arrOf st).size (arrOf st).size 0):=by
      have c2':n<minRun' (arrOf st).size (arrOf st).size 0:=c2
      lia
    have m2:lo+min ((arrOf st).size-lo) (minRun' (arrOf st).size (arrOf st).size 0)≤(arrOf st).size:=by lia
    have aN:=asc2
    rotate_left
    obtain ⟨v,hv⟩:∃v,v=u1:=⟨_,rfl⟩
    rw [←hv] at U asc ⊢
    have V:=U
    have aN:=asc
    have m1:=n1
    have m2:lo+n≤(arrOf st).size:=by lia
    all_goals
      refine wpS_bind (wpS_get ?_)
      generalize hb:(pendingOf v).back?=o
      rcases o with _ | ⟨s1,n1,p1⟩
      · refine wpS_bind (wpS_modify (wpS_pure ⟨rfl,by dsimp only;lia,V.1,V.2.1,V.2.2.1,yed V.2.2.2.1 m1 aN,m2⟩))
      · refine wpS_bind (ybD (fun _ z u=>z.1=none∧Rn lt κ st lo u∧∀t,lo≤t→av (arrOf u) t=av (arrOf v) t) (fun z u=>z.1=none∧Rn lt κ st lo u∧∀t,lo≤t→av (arrOf u) t=av (arrOf v) t) ⟨rfl,V,fun _ _=>rfl⟩ (fun _ _ x=>x) ?_ ?_)
        · rintro ⟨r,z⟩ u ⟨e1,V,sv⟩
          dsimp only at e1
          subst e1
          refine wpS_bind (wpS_modify ?_)
          refine wpS_bind (wpS_modify (wpS_pure ⟨rfl,by dsimp only;lia,V.1,V.2.1,V.2.2.1,yed ?_ m1 (zbR aN fun t t1 _=>sv t t1),m2⟩))
          show ChS lt _ ((pendingOf u).modify _ _).toList 0 lo
          rw [Array.toList_modify]
          refine yfj ?_ V.2.2.2.1
          exact fun x=>⟨rfl,rfl⟩
        · rintro i ⟨r,z⟩ u _ _ ⟨e1,V,sv⟩
          refine wpS_bind (wpS_get ?_)
          dsimp only
          generalize hm:(if (pendingOf u).size>1 then (pendingOf u)[(pendingOf u).size-2]? else none)=o
          rcases o with _ | ⟨s2,n2,p2⟩
          · exact wpS_pure ⟨rfl,V,sv⟩
          · have hs:(pendingOf u).size>1:=Decidable.byContradiction fun c=>by rw [if_neg c] at hm;cases hm
            exact S_if (fun _=>wpS_pure ⟨rfl,V,sv⟩) fun _=>wpS_bind (merge _ _ _ V (show (pendingOf u).size-2+1<(pendingOf u).size by lia) fun u2 V _ sm=>wpS_pure ⟨rfl,V,fun t ht=>(sm t ht).trans (sv t ht)⟩)
end
end L2
end
section
namespace L2
open PySem PySem.Spec PySem.W PySem.Calls PyProof.Rows
section
variable {prog:Program} {w:World} {A:Around} {E:Value→Shared→Prop} {s:Shared} {vs:List Value} {lt:Keyed→Keyed→Bool} (hO:Ordr lt)
def zbr (h h':Heap):Prop:=∀(b:Addr) (o:Obj),h.get? b=some o→h'.get? b=some o
theorem zbr.trans (x:zbr a b) (y:zbr b c):zbr a c:=fun b o e=>y b o (x b o e)
theorem zbr.push (h:Heap) (o:Obj):zbr h (h.push o):=fun _ _ e=>Heap.get?_push_of_some _ e
theorem zdi {α:Type} (vs:List α):(vs.toArray.zip vs.toArray).toList=vs.map fun v=>(v,v):=by
  rw [Array.toList_zip]
  show vs.zip vs=_
  induction vs with
  | nil=>rfl
  | cons x l ih=>rw [List.zip_cons_cons,ih];rfl
include hO
theorem yc8 {h₀:Heap} {n:Nat} {P:PySem.Fin→Shared→Prop} (ho:s.heap.get? a=some (seqObj "list" vs.toArray n)) (hz:vs.length≤sizeLine) (k0:zbr h₀ s.heap) (ha:h₀.get? a=none)
    (ask:∀h':Heap,zbr h₀ h'→2≤vs.length→wpAny (model prog w) A (keyKind' vs.toArray) (fun κ s'=>s'={ s with heap:=h' }∧∃g:Keyed→Prop,(∀v∈vs,g (v,v))∧AnsL prog w A { s with heap:=h' } κ g lt) (fun _ _=>False) { s with heap:=h' })
    (fin:∀(es:List Value) (h':Heap) (c:Nat),zbr h₀ h'→h'.get? a=some (seqObj "list" es.toArray c)→es.Perm vs→SrtL lt (es.map fun v=>(v,v))→P (.done (.ret .none)) { s with heap:=h' }) :
    wpAny (model prog w) A (Builtin.«list.sort» ⟨[.ref a],[]⟩) P E s:=by
  have hs:vs.toArray.size≤sizeLine:=by rw [List.size_toArray];exact hz
  obtain ⟨c1,o1⟩:∃c,(s.heap.update a (Obj.mapSeq fun _=>(#[]:Array Value))).get? a=some (seqObj "list" #[] c):=⟨_,get?_update_seq ho fun _=>#[]⟩
  have ku:∀(h:Heap) (f:Obj→Obj),zbr h₀ h→zbr h₀ (h.update a f):=fun h f k b o e=>by
    rw [Heap.get?_update_ne _ _ _ _ (fun q=>by rw [q,ha] at e;cases e)]
    exact k b o e
  rw [list_sort_plain]
  refine wpAny_bind (listItems_at ho rfl (wpAny_bind (listUpdate_at ho rfl ?_ hs (Nat.zero_le _))))
  refine wpAny_bind (seqEpoch_at o1 rfl (wpAny_bind (wpAny_newTuple ?_ hz)))
  refine wpAny_bind (wpAny_newList (wpAny_holding ?_) (Nat.zero_le _))
  obtain ⟨h1,e1⟩:∃h1,h1=((s.heap.update a (Obj.mapSeq fun _=>(#[]:Array Value))).push (seqObj "tuple" vs.toArray 0)).push (seqObj "list" #[] 0):=⟨_,rfl⟩
  have k1:zbr h₀ h1:=by rw [e1];exact ((ku _ _ k0).trans (zbr.push _ _)).trans (zbr.push _ _)
  have o2:h1.get? a=some (seqObj "list" #[] c1):=by rw [e1];exact zbr.push _ _ _ _ (zbr.push _ _ _ _ o1)
  have last:∀ {out:Array Value},out.toList.Perm vs→SrtL lt (out.toList.map fun v=>(v,v))→P (.done (.ret .none)) { s with heap:=h1.update a (Obj.mapSeq fun _=>out) }:=fun {out} hp hs=>by
    refine fin out.toList _ _ (ku _ _ k1) (get?_update_seq o2 fun _=>out) hp hs
  show wpAny (model prog w) A _ P E { s with heap:=((s.heap.update a (Obj.mapSeq fun _=>(#[]:Array Value))).push (seqObj "tuple" vs.toArray 0)).push (seqObj "list" #[] 0) }
  rw [←e1]
  have zp:∀ {st:SortSt},(arrOf st).toList.Perm ((vs.toArray.zip vs.toArray).toList)→((arrOf st).map (·.2)).toList.Perm vs:=fun {st} hp=>by
    have:=hp.map (·.2)
    rw [zdi,List.map_map] at this
    rw [Array.toList_map]
    exact this.trans (by show ((vs.map id).Perm vs);rw [List.map_id])
  have zs:∀ {out:Array Value},out.toList.Perm vs→out.size≤sizeLine+1:=fun hp=>by
    have:=hp.length_eq
    rw [Array.length_toList] at this
    lia
  dsimp only
  by_cases c2:vs.toArray.size<2
  · rw [if_pos c2,if_pos c2]
    refine wpAny_bind (wpAny_pure (wpAny_bind ?_))
    rw [StateT.run_pure]
    refine wpAny_pure ?_
    have hp:=zp (st:=SortSt.mk' general' (vs.toArray.zip vs.toArray) #[] 7 none) (.refl _)
    refine wpAny_bind (seqEpoch_at o2 rfl (wpAny_bind (listUpdate_at o2 rfl ?_ (Nat.zero_le _) (zs hp))))
    simp only [bne_self_eq_false,Bool.false_eq_true,if_false]
    refine wpAny_pure (last hp ?_)
    have hl:=hp.length_eq
    rw [List.size_toArray] at c2
    generalize ((arrOf (SortSt.mk' general' (vs.toArray.zip vs.toArray) #[] 7 none)).map (·.2)).toList=l at hl ⊢
    rcases l with _ | ⟨x,_ | ⟨y,l⟩⟩
    · exact List.Pairwise.nil
    · exact List.pairwise_singleton _ _
    · rw [List.length_cons,List.length_cons] at hl;lia
  · rw [if_neg c2,if_neg c2]
    rw [List.size_toArray] at c2
    refine wpAny_bind (wpAny_mono (ask h1 k1 (by lia)) (fun κ s' hk=>?_) fun _ _ x=>x.elim)
    obtain ⟨rfl,g,hg,hA⟩:=hk
    refine wpAny_bind (wpAny_mono (ygV (E:=fun _ _=>False) (st:=SortSt.mk' κ (vs.toArray.zip vs.toArray) #[] 7 none) (Q:=fun _ st=>failedOf st=none∧(arrOf st).toList.Perm (vs.toArray.zip vs.toArray).toList∧SrtL lt (arrOf st).toList) hA hO rfl ?_ rfl rfl fun st h1 h2 h3=>⟨h1,h2,h3⟩) ?_ fun _ _ x=>x.elim)
    · intro x hx
      rw [show arrOf (SortSt.mk' κ (vs.toArray.zip vs.toArray) #[] 7 none)=vs.toArray.zip vs.toArray from rfl,zdi] at hx
      obtain ⟨v,hv,rfl⟩:=List.mem_map.mp hx
      exact hg v hv
    rintro ⟨⟨⟩,st⟩ s' ⟨rfl,hf,hp0,hs⟩
    have hp:=zp hp0
    have hs2:SrtL lt (((arrOf st).map (·.2)).toList.map fun v=>(v,v)):=by
      rw [Array.toList_map,List.map_map,List.map_congr_left (g:=id) fun x hx=>?_,List.map_id]
      · exact hs
      · have:=hp0.mem_iff.mp hx
        rw [zdi] at this
        obtain ⟨v,_,rfl⟩:=List.mem_map.mp this
        rfl
    dsimp only
    refine wpAny_bind (seqEpoch_at o2 rfl (wpAny_bind (listUpdate_at o2 rfl ?_ (Nat.zero_le _) (zs hp))))
    rw [show failedOf st=none from hf]
    simp only [bne_self_eq_false,Bool.false_eq_true,if_false]
    exact wpAny_pure (last hp hs2)
end
end L2
end
section
namespace L2
open PySem PySem.Spec PySem.W PySem.Calls PyProof.Rows
end L2
end
section
namespace L2
open PySem PySem.Spec PySem.W PySem.Calls PyProof.Rows
section
variable {X:Cx}
open Classical in
def zfD (v:Value):Int:=match v with
  | .int i _=>i
  | _=>0
end
end L2
end
section
namespace L2
open PySem PySem.Spec PySem.W PySem.Calls PyProof.Rows
section
variable {prog:Program} {w:World} {A:Around} {E:Value→Shared→Prop} {s:Shared}
theorem zgz:Ordr fun x y:Keyed=>decide (zfD x.1<zfD y.1):=⟨fun h=>decide_eq_false (by have:=of_decide_eq_true h;lia),fun h1 h2=>decide_eq_false (by have:=of_decide_eq_false h1;have:=of_decide_eq_false h2;lia)⟩
theorem zck:∀ {vs:List Value},(∀v∈vs,Ex2 fun i t=>v=Value.int i t)→IntsAre vs (vs.map zfD)
  | [],_=>.nil
  | v::vs,h=>by
    obtain ⟨i,t,rfl⟩:=h v List.mem_cons_self
    exact .cons i t (zck fun x hx=>h x (List.mem_cons_of_mem _ hx))
theorem zdX {Sm:Int→Bool} {n:Nat} {Q:Value→Shared→Prop} (hh:A.handled=none) (hS:SetG w prog s.heap S Sm n) (hz:n≤sizeLine)
    (hQ:∀(h':Heap) (d':Drawn) (tk:Nat) (L:Addr) (ns':List Int) (out:Array Value) (e:Nat),IntsAre out.toList ns'→ns'.length=n→(∀k,k∈ns'↔Sm k=true)→ns'.Pairwise (·≤·)→(∀b o,s.heap.get? b=some o→h'.get? b=some o)→s.heap.objs.size≤L→
      h'.get? L=some (seqObj "list" out e)→Q (.ref L) { heap:=h',gens:=s.gens,drawn:=d',toks:=tk,os:=s.os }) :
    wpAny (model prog w) A (call (.builtin "sorted") [.ref S]) Q E s:=by
  obtain ⟨o,es,ep,t,ho,hex,hd,hel,hmem,hb,hf,hn,hG⟩:=hS
  refine Calls.call_function_entry kind_sorted plain_sorted entry_sorted (args_sorted1 _) ?_
  unfold Builtin.«sorted»
  refine wpAny_bind (m:=checkCount "sorted" 1 1 _) (wpAny_pure ?_)
  refine wpAny_bind (zcE (by simp [hh]) ho hex.1 hd hf hb hG fun vs s2 hp hL=>?_)
  have hall:∀v∈vs,Ex2 fun k t=>v = .int k t:=fun v hv=>by
    obtain ⟨e,he,rfl⟩:=List.mem_map.mp (hp.mem_iff.mp hv)
    obtain ⟨⟨k,hk,_⟩,_⟩:=hel e he
    obtain ⟨t,ht⟩:=Value.isInt_shape hk
    exact ⟨k,t,ht⟩
  have hl:vs.length=n:=by rw [hp.length_eq,List.length_map,Array.length_toList,hn]
  refine wpAny_bind (wpAny_newList ?_ (by show vs.length≤sizeLine;rw [hl];exact hz))
  have hle:=hL.size
  have hk:=hL.heap
  have hg:=hL.gens
  have hos:=hL.os
  obtain ⟨h2,g2,d2,t2,o2⟩:=s2
  dsimp only at hg hos hle hk
  subst hg;subst hos
  have hoL:(h2.push (seqObj "list" vs.toArray 0)).get? h2.objs.size=some (seqObj "list" vs.toArray 0):=Heap.get?_push_size _ rfl
  refine wpAny_bind (wpAny_holding (wpAny_call_entry slot_list_sort ⟨_,hoL,rfl⟩ entry_list_sort ?_ (args_list_sort _)))
  refine yc8 zgz (s:={ heap:=h2.push (seqObj "list" vs.toArray 0),gens:=s.gens,drawn:=d2,toks:=t2,os:=s.os }) (h₀:=h2) hoL (by rw [hl];exact hz) (zbr.push _ _) (Heap.get?_none_of_le (Nat.le_refl _)) (fun h' k h2=>?_) fun es h' c k e p hs=>⟨_,rfl,wpAny_pure ⟨_,rfl,?_⟩⟩
  · have hI:=zck hall
    obtain ⟨v1,v2,vr,rfl⟩:Ex3 fun v1 v2 vr=>vs=v1::v2::vr:=by
      rcases vs with _ | ⟨v1,_ | ⟨v2,vr⟩⟩
      · cases h2
      · exact absurd h2 (by simp)
      · exact ⟨v1,v2,vr,rfl⟩
    rw [keyKind_ints hI]
    refine wpAny_pure ⟨rfl,fun x=>Ex2 fun i t=>x.1 = .int i t,fun v hv=>hall v hv,?_⟩
    rintro ⟨x,x'⟩ ⟨y,y'⟩ C ⟨i,t,e1⟩ ⟨j,t2,e2⟩ hC
    dsimp only at e1 e2 hC
    subst e1 e2
    rw [keyLt'_oneType]
    exact oneLt_int hC
  · have hI:=zck fun v hv=>hall v (p.mem_iff.mp hv)
    refine hQ _ _ _ _ (es.map zfD) es.toArray c hI ?_ (fun k'=>?_) ?_ (fun b ob eb=>k b ob (hk b ob eb)) hle e
    · rw [List.length_map,p.length_eq];exact hl
    · rw [hmem]
      constructor
      · intro hm
        obtain ⟨v,hv,q⟩:=List.mem_map.mp hm
        obtain ⟨i,t',rfl⟩:=hall v (p.mem_iff.mp hv)
        obtain ⟨e',he',q'⟩:=List.mem_map.mp (hp.mem_iff.mp (p.mem_iff.mp hv))
        refine ⟨e',he',?_⟩
        rw [q',←q]
        exact intKind_is _ _ _ _
      · rintro ⟨e',he',q⟩
        obtain ⟨t',ht⟩:=Value.isInt_shape q
        refine List.mem_map.mpr ⟨e'.2,p.mem_iff.mpr (hp.mem_iff.mpr (List.mem_map_of_mem he')),?_⟩
        rw [ht];rfl
    · unfold SrtL at hs
      rw [List.pairwise_map] at hs ⊢
      exact hs.imp fun h=>by have:=of_decide_eq_false h;simpa using this
end
section
variable {X:Cx}
noncomputable def yeL (K:PySem.W.Frag) (te:TE):TE:=fun σ H Q=>te σ H fun x H1=>Ex2 fun (a:Addr) (ns:List Int)=>x = .ref a∧SqT K H1 a (ns.map V.int)∧ns.length<4000∧
  ∀(l:Addr) (ns':List Int),H1 l=none→ns'.Pairwise (· < ·)→(∀k,k∈ns'↔k∈ns)→Q (.ref l) (upd H1 l (.lst (ns'.map V.int)))
theorem ycm (hc:X.calm=true) (hg1:Gl X "sorted") (hm1:X.mg "sorted"=none) (hg2:Gl X "set") (hm2:X.mg "set"=none) (he:PE X e te)
    (hs:starEach [e] X.env=[(false,eval e X.env)]:=by rfl) (hs2:starEach [.Call (.Name "set" p2) [e] [] pos2] X.env=[(false,eval (.Call (.Name "set" p2) [e] [] pos2) X.env)]:=by rfl) :
    PE X (.Call (.Name "sorted" p1) [.Call (.Name "set" p2) [e] [] pos2] [] pos) (yeL X.K te):=by
  intro pins s σ H Q I h
  refine wpAny_Call_Name_kw (zbk I hg1 hm1 ybE ?_ (by decide) (by decide))
  refine PyProof.Rows.callWith_builtin1 ?_ hs2 rfl
  rw [hs2]
  show wpAny _ _ (spliced ((false,eval (.Call (.Name "set" p2) [e] [] pos2) X.env)::[])) _ _ s
  refine Calls.spliced_cons ?_
  refine wpAny_Call_Name_kw (zbk I hg2 hm2 ycv ?_ (by decide) (by decide))
  refine PyProof.Rows.callWith_type1 ?_ hs rfl
  rw [hs]
  show wpAny _ _ (spliced ((false,eval e X.env)::[])) _ _ s
  refine Calls.spliced_cons (thn (he pins s σ H _ I h) fun u s1 hq=>?_)
  obtain ⟨x,H1,I1,r1,a,ns,ex,ha,hl,q⟩:=hq
  subst ex
  cases r1
  refine Calls.spliced_nil ?_
  obtain ⟨its,r2,p2,z2⟩:=I1.tuple ha
  have hlen:=r2.length
  rw [List.length_map] at hlen
  have hh:=I1.ok.hd hc
  refine zd1 hh p2 (by simpa using yca r2) (by rw [List.size_toArray];unfold scanBound;lia) fun h2 tk2 hS hk=>?_
  refine Calls.spliced_nil ?_
  have I2:Inv X pins σ H1 { s1 with heap:=h2,toks:=tk2 }:=I1.more hk
  have hsz:its.toArray.size=ns.length:=by rw [List.size_toArray,hlen]
  rw [hsz] at hS
  have hfm:=yaO (fun i=>ns.getD i 0) ns.length
  have hfl:(firstMet (fun i=>ns.getD i 0) ns.length).length≤ns.length:=zbs hfm fun k hk=>(zaR ns k).mp hk
  have hz:=sizeLine_eq
  refine zdX (s:={ s1 with heap:=h2,toks:=tk2 }) hh hS (by lia) fun h3 d3 tk3 L ns' out e3 b1 b2 b3 b4 b5 b6 b7=>?_
  have hmem:∀k,k∈ns'↔k∈firstMet (fun i=>ns.getD i 0) ns.length:=fun k=>by
    rw [b3]
    constructor
    · intro h
      obtain ⟨y,hy,q⟩:=List.any_eq_true.mp h
      rw [←eq_of_beq q];exact hy
    · intro h;exact List.any_eq_true.mpr ⟨k,h,beq_self_eq_true _⟩
  have hnd:ns'.Nodup:=(yb1 hfm (fun k hk=>(hmem k).mpr hk) (by rw [b2];exact Nat.le_refl _)).nodup_iff.mp hfm
  have hlt:ns'.Pairwise (· < ·):=by
    refine List.Pairwise.imp₂ (fun a b h1 h2=>?_) b4 hnd
    lia
  have r3:Vals (ns'.map V.int) out.toList:=zbn b1
  have I3:Inv X pins σ (upd H1 L (.lst (ns'.map V.int))) { s1 with heap:=h3,toks:=tk3 }:=I2.laid (a:=L) (t':=tk3) (o:=.lst (ns'.map V.int)) b5 b6 ⟨?_,out.toList,e3,r3,?_⟩
  · refine ⟨.ref L,_,I3.redraw rfl rfl rfl,rfl,q L ns' (I2.hok.fresh b6) hlt fun k=>(hmem k).trans (zaR ns k)⟩
  · rw [List.length_map,b2]
    lia
  · rw [b7]
end
end L2
end
section
namespace L2
open PySem PySem.Spec PyProof.Rows
section
variable {X:Cx}
noncomputable def yhd (K:PySem.W.Frag):R2:=fun x y H Q=>Ex4 fun (a b:Addr) (xs ys:List Int)=>x = .ref a∧y = .ref b∧SqL K H a (xs.map V.int)∧SqL K H b (ys.map V.int)∧Q (.bl (!decide (xs=ys))) H
theorem zgd (hu:X.A.units<cLine):OpR X (compareOp .NotEq) (yhd X.K):=by
  intro pins s σ H x y v u Q I rx ry h
  obtain ⟨a,b,xs,ys,rfl,rfl,ha,hb,q⟩:=h
  by_cases hl:xs.length=ys.length
  · exact zgS hu pins s σ H _ _ v u Q I rx ry ⟨a,b,xs,ys,rfl,rfl,ha,hb,hl,q⟩
  cases rx;cases ry
  obtain ⟨us,r1,p1,z1⟩:=I.list ha
  obtain ⟨vs,r2,p2,z2⟩:=I.list hb
  have l1:=r1.length
  have l2:=r2.length
  rw [List.length_map] at l1 l2
  rw [decide_eq_false (show ¬ xs=ys from fun e=>hl (by rw [e]))] at q
  refine SeqAt.RcNeAt.lists_lengths p1.isList p2.isList (by rw [List.size_toArray,List.size_toArray,←l1,←l2];simpa using hl) hu _ _ _ _ ?_
  exact ⟨.bl _,H,I,rfl,q⟩
end
end L2
end
section
namespace My
open PySem L2 Dg
def top (i:Nat):Stmt:=PySem.Challenge.pw_roundwords_k14_wheels_or_none.main.body.getD i (.Pass ⟨0,0,0,0⟩)
abbrev zb1:Stmt:=top 1
abbrev yba:Stmt:=top 2
abbrev ya6:Stmt:=top 3
abbrev zbT:Stmt:=top 4
abbrev zba:Stmt:=top 7
abbrev ze8:Stmt:=top 8
abbrev ybf:Stmt:=top 9
abbrev ycX:Stmt:=top 10
abbrev yd0:Stmt:=top 11
abbrev za6:Stmt:=top 12
abbrev ybT:Stmt:=top 13
abbrev yaJ:Stmt:=top 14
abbrev zb2:Stmt:=top 15
abbrev yde:Stmt:=top 17
abbrev zbI:Stmt:=top 18
abbrev zbD:Stmt:=top 19
abbrev ybn:Stmt:=top 21
abbrev ybG:Stmt:=top 22
abbrev ybd:Stmt:=top 23
abbrev zbd:Stmt:=top 24
abbrev zbi:Stmt:=top 25
abbrev ya5:Stmt:=top 26
abbrev yaM:Stmt:=top 27
abbrev za1:Stmt:=top 28
abbrev za2:Stmt:=top 29
abbrev ybr:Stmt:=top 30
abbrev zbq:Stmt:=top 31
abbrev zbH:Stmt:=top 32
abbrev zas:Stmt:=top 33
abbrev ybw:Stmt:=top 34
abbrev ybq:Stmt:=top 35
abbrev ybW:Stmt:=top 36
abbrev yaK:Stmt:=top 37
abbrev zay:Stmt:=top 38
abbrev za9:Stmt:=top 39
abbrev ybt:Stmt:=top 40
abbrev zaS:Stmt:=top 41
abbrev zdT:Stmt:=top 42
noncomputable def ygO:List Str:=["range","len","abs","min","max","all","any","isinstance","int","bool","tuple","list","zip","enumerate","repr","dict","reversed","sorted","sum","set","str"]
abbrev Bl (mg:Str→Option Value):Prop:=∀x∈ygO,mg x=none
inductive ycS (K:PySem.W.Frag) (vs:List V) (H:Hp) (Q:VK) (E:XK):Prop
  | mk (a:Addr) (ns:List Int) (c1:vs=[.ref a]) (c2:SqL K H a (ns.map V.int)) (c3:∀H',Q (.bl true) H'):ycS K vs H Q E
noncomputable def DI (K:PySem.W.Frag) (f:Addr) (x:Str) (st:Stmt):Prop:=∃fd:FuncData,Fun K x x st f fd∧PySem.W.nsIn K mainGlobals x=some (some (.ref f))
noncomputable def GG (K:PySem.W.Frag):Prop:=∀ {l:PySem.W.OpenLaw} {w:World} {h:Heap} {mg:Str→Option Value} {fa:Addr} (_:K.In h) (_:h.Ns mainGlobals mg) (_:mg "law"=some (.ref fa)) {f1:Addr} (q1:DI K f1 "is_whole" zb1) {f2:Addr} (q2:DI K f2 "is_wholes" yba) {f3:Addr} (q3:DI K f3 "number_power" ya6) {f4:Addr} (q4:DI K f4 "is_prime" zbT) {f5:Addr} (q5:DI K f5 "many_things" zba) {f6:Addr} (q6:DI K f6 "plus" ze8) {f7:Addr} (q7:DI K f7 "digit_times" ybf) {f8:Addr} (q8:DI K f8 "lifted" ycX) {f9:Addr} (q9:DI K f9 "times" yd0) {f10:Addr} (q10:DI K f10 "times_itself" za6) {f11:Addr} (q11:DI K f11 "round_of" ybT) {f12:Addr} (q12:DI K f12 "all_come_to_one" yaJ) {f13:Addr} (q13:DI K f13 "is_field" zb2) {f14:Addr} (q14:DI K f14 "length" yde) {f15:Addr} (q15:DI K f15 "is_rising" zbI) {f16:Addr} (q16:DI K f16 "is_wheel" zbD) {f17:Addr} (q17:DI K f17 "_law_purse" ybn) {f18:Addr} (q18:DI K f18 "_law_pick" ybG) {f19:Addr} (q19:DI K f19 "_law_raised" ybd) {f20:Addr} (q20:DI K f20 "_law_digits" zbd) {f21:Addr} (q21:DI K f21 "_law_number" zbi) {f22:Addr} (q22:DI K f22 "_law_product" ya5) {f23:Addr} (q23:DI K f23 "_law_is_good" yaM) {f24:Addr} (q24:DI K f24 "_law_field" za1) {f25:Addr} (q25:DI K f25 "_law_table" za2) {f26:Addr} (q26:DI K f26 "_law_times" ybr) {f27:Addr} (q27:DI K f27 "_law_round" zbq) {f28:Addr} (q28:DI K f28 "_law_ring" zbH) {f29:Addr} (q29:DI K f29 "_law_wheel" zas) {f30:Addr} (q30:DI K f30 "_law_roots" ybw) {f31:Addr} (q31:DI K f31 "_law_whole" ybq) {f32:Addr} (q32:DI K f32 "_law_odd" ybW) {f33:Addr} (q33:DI K f33 "_law_bent" yaK) {f34:Addr} (q34:DI K f34 "_law_is_field" zay) {f35:Addr} (q35:DI K f35 "_law_due" za9) {f36:Addr} (q36:DI K f36 "_law_marks" ybt) {f37:Addr} (q37:DI K f37 "_law_otherwise" zaS) {f38:Addr} (q38:DI K f38 "law" zdT) {tk_MOST_THINGS:Tok} (kk_MOST_THINGS:PySem.W.nsIn K mainGlobals "MOST_THINGS"=some (some (.int 64 tk_MOST_THINGS))) (z1:PySem.W.nsIn K mainGlobals "range"=some none) (z2:PySem.W.nsIn K mainGlobals "len"=some none) (z3:PySem.W.nsIn K mainGlobals "abs"=some none) (z4:PySem.W.nsIn K mainGlobals "min"=some none) (z5:PySem.W.nsIn K mainGlobals "max"=some none) (z6:PySem.W.nsIn K mainGlobals "all"=some none) (z7:PySem.W.nsIn K mainGlobals "any"=some none) (z8:PySem.W.nsIn K mainGlobals "isinstance"=some none) (z9:PySem.W.nsIn K mainGlobals "int"=some none) (z10:PySem.W.nsIn K mainGlobals "bool"=some none) (z11:PySem.W.nsIn K mainGlobals "tuple"=some none) (z12:PySem.W.nsIn K mainGlobals "list"=some none) (z13:PySem.W.nsIn K mainGlobals "zip"=some none) (z14:PySem.W.nsIn K mainGlobals "enumerate"=some none) (z15:PySem.W.nsIn K mainGlobals "repr"=some none) (z16:PySem.W.nsIn K mainGlobals "dict"=some none) (z17:PySem.W.nsIn K mainGlobals "reversed"=some none) (z18:PySem.W.nsIn K mainGlobals "sorted"=some none) (z19:PySem.W.nsIn K mainGlobals "sum"=some none) (z20:PySem.W.nsIn K mainGlobals "set"=some none) (z21:PySem.W.nsIn K mainGlobals "str"=some none),∃fd:FuncData,(∀(s:Shared) (v:Value),BindsTo s fd ⟨[v],[]⟩ [("_law_script",v)])∧∀base:Heap,K.In base→base.Ns mainGlobals mg→FnOk l.prog w K mg base CX0 8 fa fd ["_law_script"] (ycS K)
@[irreducible] noncomputable def K:PySem.W.Frag:=Classical.epsilon fun K=>¬ GG K
theorem K_of (h:GG K):∀k:PySem.W.Frag,GG k:=by
  apply Classical.byContradiction
  intro q
  have ⟨k,hk⟩:=Classical.not_forall.mp q
  have e:=Classical.epsilon_spec (p:=fun K=>¬ GG K) ⟨k,hk⟩
  unfold K at h
  exact e h
def Fld (K:PySem.W.Frag) (H:Hp) (a:Addr) (p m t:Nat):Prop:=SqT K H a [.int p,.int m,.int t]
theorem Same.tup {K:PySem.W.Frag} (e:Same H H') (h:SqT K H a xs):SqT K H' a xs:=by
  rcases h with (h | ⟨o,h⟩)|h
  · exact .inl (.inl (e _ _ h))
  · exact .inl (.inr ⟨o,e _ _ h⟩)
  · exact .inr h
def mI (σ:St) (i:Nat):Nat:=match σ[i]? with
  | some (some (.int n))=>n.toNat
  | _=>0
local macro_rules | `(tactic| walk_at "rd") => `(tactic| repeat (first | refine ⟨_, rfl, ?_⟩ | refine ⟨_, _, rfl, rfl, ?_⟩))
theorem yfZ {Q:Bool→Hp→Prop} {b1 b2:Bool} (h1:∀Q:Bool→Hp→Prop,Q b1 H→t σ H Q) (h2:∀Q:Bool→Hp→Prop,Q b2 H→u σ H Q) (q:Q (b1||b2) H):tOr t u σ H Q:=by
  refine h1 _ ?_
  cases b1
  · exact h2 _ q
  · exact q
section
variable {P:Program} {w:World} {mg:Str→Option Value} {base:Heap} {f:Addr} {fd:FuncData}
inductive zc0 (K:PySem.W.Frag) (vs:List V) (H:Hp) (Q:VK) (E:XK):Prop
  | mk (a:Addr) (p m t x y:Nat) (c1:vs=[.ref a,.int x,.int y]) (c2:Fld K H a p m t) (c3:2≤p) (c4:p≤64) (c5:∀r:Nat,(∀i,dg p i r=(dg p i x+dg p i y)%p)→Q (.int r) H):zc0 K vs H Q E
theorem ybo:yaf ["field","one","other","p","total","unit"] ["field","one","other"] (zac ze8):=⟨rfl,rfl,rfl,by decide +kernel,rfl,by decide +kernel,by decide +kernel⟩
theorem ygt (B:Bl mg) (F:Fun K "plus" "plus" ze8 f fd):FnOk P w K mg base CX0 1 f fd ["field","one","other"] (zc0 K):=by
  refine F.ok ybo (fun vs H Q E h=>?_) (fun cdv A outer s H vs Q E hr h=>?_)
  · obtain ⟨a,p,m,t,x,y,rfl,_⟩:=h;rfl
  obtain ⟨a,p,m,t,x,y,rfl,hF,hp,hp2,q⟩:=h
  refine ⟨_,((3<|>ybo.nd<|>(zao<<<(pv 0)<<<zaa))<=<(4<|>ybo.nd<|>zaa)<=<(5<|>ybo.nd<|>zaa)<=<(@zaG _ _ _ _ _ _ PassesOwn.never (@PW.pt _ _ _ (@yaQ _ _ _ _ _ _ _ (ybM∪(pv 1)∪zaa) (@yaD _ _ _ _ (ybM∪(pv 2)∪zaa)))) ((@zbp _ _ 4 _ _ _ _ _ _ ybo.nd rfl (Or.inl rfl) (zaJ|||(yan|||(yal|||(pv 1)|||(pv 2))|||(pv 3))|||(pv 5)) zdU (by trivial))<=<(@zbp _ _ 1 _ _ _ _ _ _ ybo.nd rfl (Or.inl rfl) (pv 3) zcz (by trivial))<=<(@zbp _ _ 2 _ _ _ _ _ _ ybo.nd rfl (Or.inl rfl) (pv 3) zcz (by trivial))<=<(~~~(@zbp _ _ 5 _ _ _ _ _ _ ybo.nd rfl (Or.inl rfl) (pv 3) zdL (by trivial)))))<=<(~~~((pv 4)⁻¹))),?_⟩
  try dsimp only [cxOf]
  refine ⟨_,rfl,a,_,_,_,rfl,rfl,hF,rfl,?_⟩
  let I1:St→Hp→Prop:=fun σ H'=>H'=H∧Ex4 fun (k o u tt:Nat)=>An5 (σ=[some (.ref a),some (.int o),some (.int u),some (.int p),some (.int tt),some (.int ((p^k:Nat):Int))]) (o=x/p^k) (u=y/p^k) (tt<p^k) (∀i,i<k→dg p i tt=(dg p i x+dg p i y)%p)
  refine zaI I1
    (fun σ _=>mI σ 1+mI σ 2) ⟨rfl,0,x,y,0,rfl,by simp,by simp,by simp,fun i hi=>absurd hi (Nat.not_lt_zero _)⟩ ?_
  rintro σ H' ⟨rfl,k,o,u,tt,rfl,ho,hu,ht,hd⟩
  have pk:0<p^k:=Nat.pow_pos (by lia)
  refine yfZ (b1:=decide ((0:Int)<o)) (b2:=decide ((0:Int)<u)) (fun Q q=>⟨_,rfl,_,_,rfl,rfl,_,rfl,q⟩) (fun Q q=>⟨_,rfl,_,_,rfl,rfl,_,rfl,q⟩) ?_
  refine ite2 (fun c=>?_) (fun c=>?_)
  · simp only [Bool.or_eq_true,decide_eq_true_eq] at c
    refine ⟨fun σ' H''=>H''=H'∧σ'=[some (.ref a),some (.int ((o/p:Nat):Int)),some (.int ((u/p:Nat):Int)),some (.int p),some (.int ((tt+(o+u)%p*p^k:Nat):Int)),some (.int ((p^k*p:Nat):Int))],?_,?_⟩
    · rintro σ' H'' ⟨rfl,rfl⟩
      have l1:o/p≤o:=Nat.div_le_self _ _
      have l2:u/p≤u:=Nat.div_le_self _ _
      have l3:o/p<o∨u/p<u:=by
        rcases c with c|c
        · exact .inl (Nat.div_lt_self (by lia) (by lia))
        · exact .inr (Nat.div_lt_self (by lia) (by lia))
      refine ⟨_,?_,rfl,rfl,k+1,o/p,u/p,tt+(o+u)%p*p^k,rfl,?_,?_,?_,fun i hi=>?_⟩
      · show o/p+u/p<o+u;lia
      · rw [ho,Nat.pow_succ,Nat.div_div_eq_div_mul]
      · rw [hu,Nat.pow_succ,Nat.div_div_eq_div_mul]
      · exact yf2 ht (Nat.mod_lt _ (by lia))
      · rw [yf5 hp ht (Nat.mod_lt _ (by lia))]
        by_cases e:i=k
        · rw [if_pos e,ho,hu,e];unfold dg;rw [Nat.add_mod]
        · rw [if_neg e];exact hd i (by lia)
    · walk_at "rd"
      refine ⟨by show (0:Int)<p;lia,?_⟩
      walk_at "rd"
      have hm:(o+u)%p<p:=Nat.mod_lt _ (by lia)
      refine ⟨.inl ⟨by show -(2^64:Int)<(((o+u)%p:Nat):Int);lia,by show (((o+u)%p:Nat):Int)<2^64;lia⟩,?_⟩
      walk_at "rd"
      refine ⟨⟨by show (0:Int)<p;lia,by show (p:Int)<2^64;lia⟩,?_⟩
      walk_at "rd"
      refine ⟨⟨by show (0:Int)<p;lia,by show (p:Int)<2^64;lia⟩,?_⟩
      walk_at "rd"
      refine ⟨.inr ⟨by show -(2^64:Int)<p;lia,by show (p:Int)<2^64;lia⟩,?_⟩
      exact ⟨rfl,rfl⟩
  · simp only [Bool.or_eq_true,decide_eq_true_eq,not_or] at c
    refine ⟨_,rfl,q tt fun i=>?_⟩
    by_cases e:i<k
    · exact hd i e
    · have hx:x<p^k:=by
        rcases Nat.lt_or_ge x (p^k) with h|h
        · exact h
        · have:=Nat.div_pos h pk;lia
      have hy:y<p^k:=by
        rcases Nat.lt_or_ge y (p^k) with h|h
        · exact h
        · have:=Nat.div_pos h pk;lia
      rw [zaz hp ht (by lia),zaz hp hx (by lia),zaz hp hy (by lia)]
      simp
inductive zaM (K:PySem.W.Frag) (vs:List V) (H:Hp) (Q:VK) (E:XK):Prop
  | mk (a:Addr) (p m t d x:Nat) (c1:vs=[.ref a,.int d,.int x]) (c2:Fld K H a p m t) (c3:2≤p) (c4:p≤64) (c5:d<2^64) (c6:∀r:Nat,(∀i,dg p i r=d*dg p i x%p)→Q (.int r) H):zaM K vs H Q E
theorem yap:yaf ["field","digit","one","p","total","unit"] ["field","digit","one"] (zac ybf):=⟨rfl,rfl,rfl,by decide +kernel,rfl,by decide +kernel,by decide +kernel⟩
theorem ycE (B:Bl mg) (F:Fun K "digit_times" "digit_times" ybf f fd):FnOk P w K mg base CX0 1 f fd ["field","digit","one"] (zaM K):=by
  refine F.ok yap (fun vs H Q E h=>?_) (fun cdv A outer s H vs Q E hr h=>?_)
  · obtain ⟨a,p,m,t,x,y,rfl,_⟩:=h;rfl
  obtain ⟨a,p,m,t,d,x,rfl,hF,hp,hp2,hd2,q⟩:=h
  refine ⟨_,((3<|>yap.nd<|>(zao<<<(pv 0)<<<zaa))<=<(4<|>yap.nd<|>zaa)<=<(5<|>yap.nd<|>zaa)<=<(@zaG _ _ _ _ _ _ PassesOwn.never (ybM∪(pv 2)∪zaa) ((@zbp _ _ 4 _ _ _ _ _ _ yap.nd rfl (Or.inl rfl) (zaJ|||(yan|||(zaJ|||(pv 1)|||(pv 2))|||(pv 3))|||(pv 5)) zdU (by trivial))<=<(@zbp _ _ 2 _ _ _ _ _ _ yap.nd rfl (Or.inl rfl) (pv 3) zcz (by trivial))<=<(~~~(@zbp _ _ 5 _ _ _ _ _ _ yap.nd rfl (Or.inl rfl) (pv 3) zdL (by trivial)))))<=<(~~~((pv 4)⁻¹))),?_⟩
  try dsimp only [cxOf]
  refine ⟨_,rfl,a,_,_,_,rfl,rfl,hF,rfl,?_⟩
  let I2:St→Hp→Prop:=fun σ H'=>H'=H∧Ex3 fun (k o tt:Nat)=>An4 (σ=[some (.ref a),some (.int d),some (.int o),some (.int p),some (.int tt),some (.int ((p^k:Nat):Int))]) (o=x/p^k) (tt<p^k) (∀i,i<k→dg p i tt=d*dg p i x%p)
  refine zaI I2
    (fun σ _=>mI σ 2) ⟨rfl,0,x,0,rfl,by simp,by simp,fun i hi=>absurd hi (Nat.not_lt_zero _)⟩ ?_
  rintro σ H' ⟨rfl,k,o,tt,rfl,ho,ht,hd⟩
  have pk:0<p^k:=Nat.pow_pos (by lia)
  walk_at "rd"
  refine ite2 (fun c=>?_) (fun c=>?_)
  · have c':0<o:=by have:=of_decide_eq_true c;lia
    refine ⟨fun σ' H''=>H''=H'∧σ'=[some (.ref a),some (.int d),some (.int ((o/p:Nat):Int)),some (.int p),some (.int ((tt+d*o%p*p^k:Nat):Int)),some (.int ((p^k*p:Nat):Int))],?_,?_⟩
    · rintro σ' H'' ⟨rfl,rfl⟩
      refine ⟨_,?_,rfl,rfl,k+1,o/p,tt+d*o%p*p^k,rfl,?_,?_,fun i hi=>?_⟩
      · show o/p<o;exact Nat.div_lt_self c' (by lia)
      · rw [ho,Nat.pow_succ,Nat.div_div_eq_div_mul]
      · exact yf2 ht (Nat.mod_lt _ (by lia))
      · rw [yf5 hp ht (Nat.mod_lt _ (by lia))]
        by_cases e:i=k
        · rw [if_pos e,ho,e];unfold dg;rw [Nat.mul_mod_mod]
        · rw [if_neg e];exact hd i (by lia)
    · have hm:d*o%p<p:=Nat.mod_lt _ (by lia)
      walk_at "rd"
      refine ⟨.inl ⟨by show -(2^64:Int)<(d:Int);lia,by show (d:Int)<2^64;lia⟩,?_⟩
      walk_at "rd"
      refine ⟨by show (0:Int)<p;lia,?_⟩
      walk_at "rd"
      refine ⟨.inl ⟨by show -(2^64:Int)<((d*o%p:Nat):Int);lia,by show ((d*o%p:Nat):Int)<2^64;lia⟩,?_⟩
      walk_at "rd"
      refine ⟨⟨by show (0:Int)<p;lia,by show (p:Int)<2^64;lia⟩,?_⟩
      walk_at "rd"
      refine ⟨.inr ⟨by show -(2^64:Int)<p;lia,by show (p:Int)<2^64;lia⟩,?_⟩
      exact ⟨rfl,rfl⟩
  · have c':o=0:=by have:=of_decide_eq_false (Bool.eq_false_iff.mpr c);lia
    refine ⟨_,rfl,q tt fun i=>?_⟩
    by_cases e:i<k
    · exact hd i e
    · have hx:x<p^k:=by
        rcases Nat.lt_or_ge x (p^k) with h|h
        · exact h
        · have:=Nat.div_pos h pk;lia
      rw [zaz hp ht (by lia),zaz hp hx (by lia)]
      simp
inductive yag (vs:List V) (H:Hp) (Q:VK) (E:XK):Prop
  | mk (b k:Nat) (c1:vs=[.int b,.int k]) (c2:b≤64) (c3:k≤1000) (c4:Q (.int ((b^k:Nat):Int)) H):yag vs H Q E
theorem yaI:yaf ["base","many","product","step"] ["base","many"] (zac ya6):=⟨rfl,rfl,rfl,by decide +kernel,rfl,by decide +kernel,by decide +kernel⟩
theorem yci (B:Bl mg) (F:Fun K "number_power" "number_power" ya6 f fd):FnOk P w K mg base CX0 1 f fd ["base","many"] yag:=by
  refine F.ok yaI (fun vs H Q E h=>?_) (fun cdv A outer s H vs Q E hr h=>?_)
  · obtain ⟨b,k,rfl,_⟩:=h;rfl
  obtain ⟨b,k,rfl,hb,hk,q⟩:=h
  refine ⟨_,((2<|>yaI.nd<|>zaa)<=<((↑((pv 1)>=>yaa))<&>((3&&&yaI.nd),(~~~(@zbp _ _ 2 _ _ _ _ _ _ yaI.nd rfl (Or.inl rfl) (pv 0) zdL (by trivial)))))<=<(~~~((pv 2)⁻¹))),?_⟩
  try dsimp only [cxOf]
  refine ⟨_,rfl,k,rfl,by lia,by lia,yaB (n:=k) (fun i σ H'=>H'=H∧∃s,σ=[some (.int b),some (.int k),some (.int ((b^i:Nat):Int)),s]) ⟨rfl,none,rfl⟩ ?_ ?_⟩
  · rintro i σ H' hi ⟨rfl,s,rfl⟩
    walk_at "rd"
    refine ⟨.inr ⟨by lia,by lia⟩,rfl,some (.int (0+(i:Int))),?_⟩
    rw [Nat.pow_succ];rfl
  · rintro σ H' ⟨rfl,s,rfl⟩
    exact ⟨_,rfl,q⟩
theorem zcZ {i j:Int} (h:i=j):V.int i=V.int j:=congrArg V.int h
inductive zcj (K:PySem.W.Frag) (vs:List V) (H:Hp) (Q:VK) (E:XK):Prop
  | mk (a:Addr) (p m t x:Nat) (c1:vs=[.ref a,.int x]) (c2:Fld K H a p m t) (c3:2≤p) (c4:1≤m) (c5:p^m≤64) (c6:t<p^m) (c7:x<p^m) (c8:∀r:Nat,(∀i,dg p i r=zaw m (fun i=>dg p i t) (fun i=>dg p i x) i%p)→Q (.int r) H):zcj K vs H Q E
theorem p_le {p m:Nat} (hp:2≤p) (hm:1≤m) (h:p^m≤64):p≤64:=Nat.le_trans (by simpa using Nat.pow_le_pow_right (n:=p) (by lia) hm) h
theorem m_le {p m:Nat} (hp:2≤p) (h:p^m≤64):m≤6:=by
  rcases Nat.lt_or_ge 6 m with h1|h1
  · have:=Nat.pow_le_pow_left hp m
    have:=Nat.pow_le_pow_right (n:=2) (by lia) h1
    lia
  · exact h1
theorem za8:yaf ["field","one","p","m","top","last_unit","moved"] ["field","one"] (zac ycX):=⟨rfl,rfl,rfl,by decide +kernel,rfl,by decide +kernel,by decide +kernel⟩
theorem yfm (B:Bl mg) (h_plus:Has P w K mg base 1 "plus" ["field","one","other"] (zc0 K)) (h_digit_times:Has P w K mg base 1 "digit_times" ["field","digit","one"] (zaM K)) (h_number_power:Has P w K mg base 1 "number_power" ["base","many"] yag) (F:Fun K "lifted" "lifted" ycX f fd):FnOk P w K mg base CX0 2 f fd ["field","one"] (zcj K):=by
  refine F.ok za8 (fun vs H Q E h=>?_) (fun cdv A outer s H vs Q E hr h=>?_)
  · obtain ⟨a,p,m,t,x,rfl,_⟩:=h;rfl
  obtain ⟨a,p,m,t,x,rfl,hF,hp,hm,hpm,ht,hx,q⟩:=h
  have hp2:=p_le hp hm hpm
  have hm6:=m_le hp hpm
  refine ⟨_,(((pv 0)≈((2&&&za8.nd)∩((3&&&za8.nd)∩((4&&&za8.nd)∩yaA))))<=<(5<|>za8.nd<|>(h_number_power<$>((pv 2)>=>(ya1|||(pv 3)|||zaa)>=>yaa)))<=<(6<|>za8.nd<|>(zaJ|||(yan|||(pv 1)|||(pv 5))|||(pv 2)))<=<(~~~((h_plus<$>((pv 0)>=>(pv 6)>=>(h_digit_times<$>((pv 0)>=>(ydy|||(pv 1)|||(pv 5))>=>(pv 4)>=>yaa))>=>yaa))⁻¹))),?_⟩
  try dsimp only [cxOf]
  refine ⟨_,rfl,a,_,rfl,hF,rfl,_,_,rfl,_,_,rfl,_,_,rfl,rfl,?_⟩
  walk_at "rd"
  refine ⟨p,m-1,by (try dsimp only);rw [show ((m:Nat):Int)-1=((m-1:Nat):Int) by lia];rfl,hp2,by lia,?_⟩
  have hl:p^(m-1)≤64:=Nat.le_trans (Nat.pow_le_pow_right (by lia) (by lia)) hpm
  have hl0:0<p^(m-1):=Nat.pow_pos (by lia)
  walk_at "rd"
  refine ⟨by show (0:Int)<((p^(m-1):Nat):Int);lia,?_⟩
  walk_at "rd"
  refine ⟨.inr ⟨by show -(2^64:Int)<(p:Int);lia,by show (p:Int)<2^64;lia⟩,?_⟩
  walk_at "rd"
  refine ⟨⟨by show (0:Int)<((p^(m-1):Nat):Int);lia,by show ((p^(m-1):Nat):Int)<2^64;lia⟩,?_⟩
  walk_at "rd"
  have hdl:=yge hp hm hx
  have hdl2:=ygX hp (m-1) x
  refine ⟨a,p,m,t,x/p^(m-1),t,rfl,hF,hp,hp2,by lia,fun r1 h1=>?_⟩
  refine ⟨a,p,m,t,x%p^(m-1)*p,r1,rfl,hF,hp,hp2,fun r h2=>q r fun i=>?_⟩
  rw [h2 i,h1 i,zhj hp,ygR hp,hdl,Nat.add_mod_mod]
  unfold zaw yaz
  by_cases hi:i<m
  · rw [if_pos hi]
    by_cases h0:i=0
    · rw [if_pos h0,if_pos h0]
    · rw [if_neg h0,if_neg h0,if_pos (by lia)]
  · rw [if_neg hi,if_neg (by lia),if_neg (by lia),zaz hp ht (by lia)]
    simp
inductive zcc (K:PySem.W.Frag) (vs:List V) (H:Hp) (Q:VK) (E:XK):Prop
  | mk (a:Addr) (p m t x y:Nat) (c1:vs=[.ref a,.int x,.int y]) (c2:Fld K H a p m t) (c3:2≤p) (c4:1≤m) (c5:p^m≤64) (c6:t<p^m) (c7:x<p^m) (c8:y<p^m) (c9:∀r:Nat,r<p^m→(∀i,i<m→dg p i r=tn m (fun i=>dg p i t) m (fun i=>dg p i x) (fun i=>dg p i y) i%p)→Q (.int r) H):zcc K vs H Q E
theorem zbz:yaf ["field","one","other","p","total"] ["field","one","other"] (zac yd0):=⟨rfl,rfl,rfl,by decide +kernel,rfl,by decide +kernel,by decide +kernel⟩
theorem zfv (B:Bl mg) (h_plus:Has P w K mg base 1 "plus" ["field","one","other"] (zc0 K)) (h_digit_times:Has P w K mg base 1 "digit_times" ["field","digit","one"] (zaM K)) (h_lifted:Has P w K mg base 2 "lifted" ["field","one"] (zcj K)) (F:Fun K "times" "times" yd0 f fd):FnOk P w K mg base CX0 3 f fd ["field","one","other"] (zcc K):=by
  refine F.ok zbz (fun vs H Q E h=>?_) (fun cdv A outer s H vs Q E hr h=>?_)
  · obtain ⟨a,p,m,t,x,y,rfl,_⟩:=h;rfl
  obtain ⟨a,p,m,t,x,y,rfl,hF,hp,hm,hpm,ht,hx,hy,q⟩:=h
  have hp2:=p_le hp hm hpm
  refine ⟨_,((3<|>zbz.nd<|>(zao<<<(pv 0)<<<zaa))<=<(4<|>zbz.nd<|>zaa)<=<(@zaG _ _ _ _ _ _ PassesOwn.never (ybM∪(pv 1)∪zaa) ((4<|>zbz.nd<|>(h_plus<$>((pv 0)>=>(pv 4)>=>(h_digit_times<$>((pv 0)>=>(yan|||(pv 1)|||(pv 3))>=>(pv 2)>=>yaa))>=>yaa)))<=<(@zbp _ _ 1 _ _ _ _ _ _ zbz.nd rfl (Or.inl rfl) (pv 3) zcz (by trivial))<=<(~~~((ybM∪(pv 1)∪zaa)*>((~~~(2<|>zbz.nd<|>(h_lifted<$>((pv 0)>=>(pv 2)>=>yaa)))),yae)))))<=<(~~~((pv 4)⁻¹))),?_⟩
  try dsimp only [cxOf]
  refine ⟨_,rfl,a,_,_,_,rfl,rfl,hF,rfl,?_⟩
  let I3:St→Hp→Prop:=fun σ H'=>H'=H∧Ex4 fun (k o u tt:Nat)=>An5 (σ=[some (.ref a),some (.int o),some (.int u),some (.int p),some (.int tt)]) (o<p^k) (u<p^m) (tt<p^m) (∀i,i<m→(dg p i tt+tn m (fun i=>dg p i t) k (fun i=>dg p i o) (fun i=>dg p i u) i)%p=tn m (fun i=>dg p i t) m (fun i=>dg p i x) (fun i=>dg p i y) i%p)
  refine zaI I3
    (fun σ _=>mI σ 1) ⟨rfl,m,x,y,0,rfl,hx,hy,Nat.pow_pos (by lia),fun i _=>by rw [ybk,Nat.zero_add]⟩ ?_
  rintro σ H' ⟨rfl,k,o,u,tt,rfl,ho,hu,htt,hd⟩
  walk_at "rd"
  refine ite2 (fun c=>?_) (fun c=>?_)
  · have c':0<o:=by have:=of_decide_eq_true c;lia
    have hk:k≠0:=fun e=>by rw [e] at ho;simp at ho;lia
    obtain ⟨k,rfl⟩:∃j,k=j+1:=⟨k-1,by lia⟩
    have om:o%p<p:=Nat.mod_lt _ (by lia)
    have ho2:o/p<p^k:=Nat.div_lt_of_lt_mul (by rw [Nat.pow_succ,Nat.mul_comm] at ho;exact ho)
    have ho3:o/p<o:=Nat.div_lt_self c' (by lia)
    refine ⟨fun σ' H''=>H''=H'∧Ex3 fun (o' u' t':Nat)=>o'=o/p∧σ'=[some (.ref a),some (.int o'),some (.int u'),some (.int p),some (.int t')]∧u'<p^m∧t'<p^m∧
      ∀i,i<m→(dg p i t'+tn m (fun i=>dg p i t) k (fun i=>dg p i o') (fun i=>dg p i u') i)%p=tn m (fun i=>dg p i t) m (fun i=>dg p i x) (fun i=>dg p i y) i%p,?_,?_⟩
    · rintro σ' H'' ⟨rfl,o',u',t',rfl,rfl,b1,b2,b3⟩
      exact ⟨_,by show o/p<o;exact ho3,rfl,rfl,k,o/p,u',t',rfl,ho2,b1,b2,b3⟩
    walk_at "rd"
    refine ⟨by show (0:Int)<p;lia,?_⟩
    walk_at "rd"
    refine ⟨a,p,m,t,o%p,u,rfl,hF,hp,hp2,by lia,fun r1 h1=>?_⟩
    refine ⟨a,p,m,t,tt,r1,rfl,hF,hp,hp2,fun r2 h2=>?_⟩
    have hr2:r2<p^m:=zbX hp fun i hi=>by rw [h2 i,h1 i,zaz hp htt hi,zaz hp hu hi];simp
    have hd2:∀i,i<m→(dg p i r2+tn m (fun i=>dg p i t) k (fun i=>dg p i (o/p)) (zaw m (fun i=>dg p i t) fun i=>dg p i u) i)%p=tn m (fun i=>dg p i t) m (fun i=>dg p i x) (fun i=>dg p i y) i%p:=fun i hi=>by
      rw [←hd i hi,h2 i,h1 i]
      show _=(dg p i tt+(dg p 0 o*dg p i u+tn m (fun i=>dg p i t) k (fun j=>dg p (j+1) o) (zaw m (fun i=>dg p i t) fun i=>dg p i u) i))%p
      rw [zcm,zbc,←Nat.add_assoc]
      refine ybb ?_ rfl
      rw [Nat.mod_mod]
      exact ybb rfl (Nat.mod_mod _ _)
    walk_at "rd"
    refine ⟨⟨by show (0:Int)<p;lia,by show (p:Int)<2^64;lia⟩,?_⟩
    walk_at "rd"
    refine ite2 (fun c2=>?_) (fun c2=>?_)
    · walk_at "rd"
      refine ⟨a,p,m,t,u,rfl,hF,hp,hm,hpm,ht,hu,fun r3 h3=>?_⟩
      have hr3:r3<p^m:=zbX hp fun i hi=>by rw [h3 i];unfold zaw;rw [if_neg (by lia)];simp
      refine ⟨rfl,o/p,r3,r2,rfl,rfl,hr3,hr2,fun i hi=>?_⟩
      rw [←hd2 i hi]
      exact ybb rfl (zbb hm k _ _ _ (fun j _=>by rw [h3 j,Nat.mod_mod]) i hi)
    · have c3:o/p=0:=by have:=of_decide_eq_false (Bool.eq_false_iff.mpr c2);exact Nat.le_zero.mp (Int.ofNat_le.mp (show ((o/p:Nat):Int)≤((0:Nat):Int) from Int.not_lt.mp this))
      refine ⟨rfl,o/p,u,r2,rfl,rfl,hu,hr2,fun i hi=>?_⟩
      rw [←hd2 i hi,c3,ycu k _ _ i (fun j=>ybk p j),ycu k _ _ i (fun j=>ybk p j)]
  · have c':o=0:=by have:=of_decide_eq_false (Bool.eq_false_iff.mpr c);lia
    refine ⟨_,rfl,q tt htt fun i hi=>?_⟩
    rw [←hd i hi,c',ycu k _ _ i (fun j=>ybk p j),Nat.add_zero,yf4]
end
end My
end
section
namespace My
open PySem L2 Dg
local macro_rules | `(tactic| walk_at "rd") => `(tactic| repeat (first | refine ⟨_, rfl, ?_⟩ | refine ⟨_, _, rfl, rfl, ?_⟩))
theorem yab (h:H p=none) (o:HO):Same H (upd H p o):=fun b u q=>by rw [yad (yac q h)];exact q
abbrev Vn (n:Nat):V:=.int (n:Int)
noncomputable def Pu (H:Hp) (a g:Addr):Prop:=Ex3 fun (ns:List Nat) (s t:Nat)=>H a=some (.lst [.ref g,Vn s,Vn t])∧H g=some (.lst (ns.map Vn))
theorem Pu.ne (h:Pu H a g):a≠g:=by
  obtain ⟨ns,s,t,h1,h2⟩:=h
  intro e;subst e;rw [h1] at h2
  have h3:=HO.lst.inj (Option.some.inj h2)
  cases ns with
  | nil=>cases h3
  | cons n ns=>cases h3
def zaf (a g:Addr) (H H':Hp):Prop:=∀b o,b≠a→b≠g→H b=some o→H' b=some o
theorem zaf.refl:zaf a g H H:=fun _ _ _ _ e=>e
theorem zaf.trans (h1:zaf a g H H1) (h2:zaf a g H1 H2):zaf a g H H2:=fun b o n1 n2 e=>h2 b o n1 n2 (h1 b o n1 n2 e)
theorem Same.x (h:Same H H1):zaf a g H H1:=fun b o _ _ e=>h b o e
theorem Pu.same (h:Pu H a g) (s:Same H H'):Pu H' a g:=by
  obtain ⟨ns,x,t,h1,h2⟩:=h
  exact ⟨ns,x,t,s _ _ h1,s _ _ h2⟩
theorem szl (n:Nat) (h:n≤100000:=by lia):n≤sizeLine:=by rw [sizeLine_eq];lia
section
variable {P:Program} {w:World} {mg:Str→Option Value} {base:Heap} {f:Addr} {fd:FuncData}
theorem yaL:yaf ["_law_one","_law_many","_law_found","_law_turn"] ["_law_one","_law_many"] (zac ybd):=⟨rfl,rfl,rfl,by decide +kernel,rfl,by decide +kernel,by decide +kernel⟩
theorem yeE (B:Bl mg) (F:Fun K "_law_raised" "_law_raised" ybd f fd):FnOk P w K mg base CX0 1 f fd ["_law_one","_law_many"] yag:=by
  refine F.ok yaL (fun vs H Q E h=>?_) (fun cdv A outer s H vs Q E hr h=>?_)
  · obtain ⟨b,k,rfl,_⟩:=h;rfl
  obtain ⟨b,k,rfl,hb,hk,q⟩:=h
  refine ⟨_,((2<|>yaL.nd<|>zaa)<=<((↑((pv 1)>=>yaa))<&>((3&&&yaL.nd),(~~~(2<|>yaL.nd<|>(zaJ|||(pv 2)|||(pv 0))))))<=<(~~~((pv 2)⁻¹))),?_⟩
  try dsimp only [cxOf]
  refine ⟨_,rfl,k,rfl,by lia,by lia,yaB (n:=k) (fun i σ H'=>H'=H∧∃s,σ=[some (.int b),some (.int k),some (.int ((b^i:Nat):Int)),s]) ⟨rfl,none,rfl⟩ ?_ ?_⟩
  · rintro i σ H' hi ⟨rfl,s,rfl⟩
    walk_at "rd"
    refine ⟨.inr ⟨by lia,by lia⟩,rfl,some (.int (0+(i:Int))),?_⟩
    rw [Nat.pow_succ];rfl
  · rintro σ H' ⟨rfl,s,rfl⟩
    exact ⟨_,rfl,q⟩
def digL (p m x:Nat):List V:=(List.range m).map fun i=>Vn (dg p i x)
theorem yeJ (p m x:Nat):digL p (m+1) x=digL p m x++[Vn (dg p m x)]:=by unfold digL;rw [List.range_succ,List.map_append];rfl
theorem ybg (p m x:Nat):(digL p m x).length=m:=by simp [digL]
inductive ych (K:PySem.W.Frag) (vs:List V) (H:Hp) (Q:VK) (E:XK):Prop
  | mk (a:Addr) (p m t x:Nat) (c1:vs=[.ref a,.int x]) (c2:Fld K H a p m t) (c3:2≤p) (c4:p≤64) (c5:m≤64) (c6:∀r H',H r=none→Same H H'→H' r=some (.lst (digL p m x))→Q (.ref r) H'):ych K vs H Q E
theorem zaN:yaf ["_law_field_here","_law_thing","_law_found","_law_k"] ["_law_field_here","_law_thing"] (zac zbd):=⟨rfl,rfl,rfl,by decide +kernel,rfl,by decide +kernel,by decide +kernel⟩
theorem zfn (B:Bl mg) (F:Fun K "_law_digits" "_law_digits" zbd f fd):FnOk P w K mg base CX0 1 f fd ["_law_field_here","_law_thing"] (ych K):=by
  refine F.ok zaN (fun vs H Q E h=>?_) (fun cdv A outer s H vs Q E hr h=>?_)
  · obtain ⟨a,p,m,t,x,rfl,_⟩:=h;rfl
  obtain ⟨a,p,m,t,x,rfl,hF,hp,hp2,hm,q⟩:=h
  refine ⟨_,((2<|>zaN.nd<|>(@zap _ _ _ _ yaa))<=<((↑((zao<<<(pv 0)<<<zaa)>=>yaa))<&>((3&&&zaN.nd),((@ybp _ _ _ _ (@zdw _ _ _ _ _ _ _ _ _ _ _ _ PySem.F.plainAttrs_list PySem.F.slot_list_append PySem.F.type_list_append yaV (pv 2) ((yan|||(pv 1)|||(zao<<<(pv 0)<<<zaa))>=>yaa) (by rfl) (by rfl) (by rfl) (by rfl) (by rfl)) (by rfl))<=<(~~~(1<|>zaN.nd<|>(ydy|||(pv 1)|||(zao<<<(pv 0)<<<zaa)))))))<=<(~~~((pv 2)⁻¹))),?_⟩
  try dsimp only [cxOf]
  refine ⟨szl 0,fun l hl=>?_⟩
  have g1:Same H (upd H l (.lst [])):=yab hl _
  refine ⟨_,rfl,a,_,_,_,rfl,rfl,Same.tup g1 hF,rfl,m,rfl,by lia,by lia,yaB (n:=m) (fun i σ H'=>H'=upd H l (.lst (digL p i x))∧∃s,σ=[some (.ref a),some (.int ((x/p^i:Nat):Int)),some (.ref l),s]) ⟨rfl,none,by simp;rfl⟩ ?_ ?_⟩
  · rintro i σ H' hi ⟨rfl,s,rfl⟩
    have g2:Same H (upd H l (.lst (digL p i x))):=yab hl _
    refine ⟨_,rfl,.inl ⟨rfl,_,SqL.of zab⟩,?_⟩
    walk_at "rd"
    refine ⟨a,_,_,_,rfl,rfl,Same.tup g2 hF,rfl,?_⟩
    walk_at "rd"
    refine ⟨by show (0:Int)<p;lia,l,_,_,rfl,rfl,zab,by rw [ybg];exact Nat.lt_of_le_of_lt (show i≤1000 by lia) (yai (Nat.le_refl _)),?_⟩
    rw [zdY]
    have g3:Same H (upd H l (.lst (digL p (i+1) x))):=yab hl _
    have e1:digL p i x++[V.int (((x/p^i:Nat):Int)%(p:Int))]=digL p (i+1) x:=by rw [yeJ];rfl
    rw [e1]
    refine ⟨_,rfl,_,rfl,a,_,_,_,rfl,rfl,Same.tup g3 hF,rfl,?_⟩
    walk_at "rd"
    refine ⟨⟨by show (0:Int)<p;lia,by show (p:Int)<2^64;lia⟩,rfl,some (.int (0+(i:Int))),?_⟩
    rw [Nat.pow_succ,←Nat.div_div_eq_div_mul];rfl
  · rintro σ H' ⟨rfl,s,rfl⟩
    exact ⟨_,rfl,q l _ hl (yab hl _) zab⟩
def num (p:Nat):List Nat→Nat
  | []=>0
  | d::ds=>num p ds*p+d
theorem ye0 {p:Nat} (hp:2≤p):∀(ds:List Nat),(∀d∈ds,d<p)→∀i,dg p i (num p ds)=ds.getD i 0
  | [],_,i=>by simp [num,ybk]
  | d::ds,h,i=>by
    have hd:d<p:=h d List.mem_cons_self
    have ih:=ye0 hp ds fun x hx=>h x (List.mem_cons_of_mem _ hx)
    cases i with
    | zero=>rw [zbc];show (num p ds*p+d)%p=d;rw [Nat.mul_comm,Nat.mul_add_mod,Nat.mod_eq_of_lt hd]
    | succ i =>
      rw [zbo]
      show dg p i ((num p ds*p+d)/p)=ds.getD i 0
      rw [Nat.mul_comm,Nat.mul_add_div (by lia),Nat.div_eq_of_lt hd,Nat.add_zero]
      exact ih i
inductive zcn (K:PySem.W.Frag) (vs:List V) (H:Hp) (Q:VK) (E:XK):Prop
  | mk (a b:Addr) (p m t:Nat) (ds:List Nat) (c1:vs=[.ref a,.ref b]) (c2:Fld K H a p m t) (c3:2≤p) (c4:p≤64) (c5:SqL K H b (ds.map Vn)) (c6:∀H',Same H H'→Q (Vn (num p ds)) H'):zcn K vs H Q E
theorem yaN:yaf ["_law_field_here","_law_digits_here","_law_found","_law_digit"] ["_law_field_here","_law_digits_here"] (zac zbi):=⟨rfl,rfl,rfl,by decide +kernel,rfl,by decide +kernel,by decide +kernel⟩
theorem yfs (B:Bl mg) (F:Fun K "_law_number" "_law_number" zbi f fd):FnOk P w K mg base CX0 1 f fd ["_law_field_here","_law_digits_here"] (zcn K):=by
  refine F.ok yaN (fun vs H Q E h=>?_) (fun cdv A outer s H vs Q E hr h=>?_)
  · obtain ⟨a,b,p,m,t,ds,rfl,_⟩:=h;rfl
  obtain ⟨a,b,p,m,t,ds,rfl,hF,hp,hp2,hb,q⟩:=h
  refine ⟨_,((2<|>yaN.nd<|>zaa)<=<((@yb2 _ _ _ _ (@zg7 _ _ _ _ _ _ _ _ (pv 1)))<&>((3&&&yaN.nd),(~~~(2<|>yaN.nd<|>(yal|||(zaJ|||(pv 2)|||(zao<<<(pv 0)<<<zaa))|||(pv 3))))))<=<(~~~((pv 2)⁻¹))),?_⟩
  try dsimp only [cxOf]
  refine ⟨_,rfl,b,_,rfl,hb,fun l hl=>?_⟩
  have g1:Same H (upd H l (.lst (ds.map Vn).reverse)):=yab hl _
  refine ⟨l,rfl,⟨_,SqL.of zab⟩,yem (xs:=(ds.map Vn).reverse) (fun i σ H'=>H'=upd H l (.lst (ds.map Vn).reverse)∧∃s,σ=[some (.ref a),some (.ref b),some (Vn (num p (ds.drop (ds.length-i)))),s]) ⟨rfl,none,by rw [Nat.sub_zero,List.drop_length];rfl⟩ ?_ ?_ ?_⟩
  · rintro i σ H' hi ⟨rfl,_⟩;exact SqL.of zab
  · rintro i x σ H' hx ⟨rfl,s,rfl⟩
    have hi:i<ds.length:=by have:=(List.getElem?_eq_some_iff.mp hx).1;simpa using this
    have ex:x=Vn (ds[ds.length-1-i]):=by
      rw [List.getElem?_reverse (by simpa using hi),List.getElem?_map,List.length_map,List.getElem?_eq_getElem (by lia)] at hx
      exact (Option.some.inj hx).symm
    subst ex
    walk_at "rd"
    refine ⟨a,_,_,_,rfl,rfl,Same.tup g1 hF,rfl,?_⟩
    walk_at "rd"
    refine ⟨.inr ⟨by show -(2^64:Int)<(p:Int);lia,by show (p:Int)<2^64;lia⟩,?_⟩
    walk_at "rd"
    refine ⟨rfl,some (Vn (ds[ds.length-1-i])),?_⟩
    have e:ds.drop (ds.length-(i+1))=ds[ds.length-1-i]::ds.drop (ds.length-i):=by
      rw [show ds.length-(i+1)=ds.length-1-i by lia,List.drop_eq_getElem_cons (by lia)]
      congr 2;lia
    rw [e];rfl
  · rintro σ H' ⟨rfl,s,rfl⟩
    refine ⟨_,rfl,?_⟩
    have e:ds.length-(ds.map Vn).reverse.length=0:=by simp
    rw [e,List.drop_zero]
    exact q _ g1
inductive zdj (K:PySem.W.Frag) (vs:List V) (H:Hp) (Q:VK) (E:XK):Prop
  | mk (a:Addr) (ns:List Int) (c1:vs=[.ref a]) (c2:SqL K H a (ns.map V.int)) (c3:∀r g H',H r=none→H g=none→Same H H'→Pu H' r g→Q (.ref r) H'):zdj K vs H Q E
theorem zaU:yaf ["_law_script","_law_seed","_law_great","_law_cell"] ["_law_script"] (zac ybn):=⟨rfl,rfl,rfl,by decide +kernel,rfl,by decide +kernel,by decide +kernel⟩
theorem zf4 {i:Int} (h:0≤i):∃n:Nat,V.int i=Vn n:=by obtain ⟨n,e⟩:=Int.eq_ofNat_of_zero_le h;exact ⟨n,by rw [e]⟩
theorem yfy (B:Bl mg) (F:Fun K "_law_purse" "_law_purse" ybn f fd):FnOk P w K mg base CX0 1 f fd ["_law_script"] (zdj K):=by
  refine F.ok zaU (fun vs H Q E h=>?_) (fun cdv A outer s H vs Q E hr h=>?_)
  · obtain ⟨a,ns,rfl,_⟩:=h;rfl
  obtain ⟨a,ns,rfl,ha,q⟩:=h
  refine ⟨_,((@yb3 _ _ 1 2 _ _ _ _ _ _ _ _ _ _ _ rfl zaU.nd rfl rfl (by decide) rfl rfl (zaa>=>(@zap _ _ _ _ yaa)>=>yaa) rfl (by rfl))<=<((@yb2 _ _ _ _ (@yak _ _ _ _ _ _ _ _ _ _ yff (pv 0) zaq (@yam _ _ _ zaa)))<&>((3&&&zaU.nd),((1<|>zaU.nd<|>(yan|||(yal|||(yal|||(zaJ|||(pv 1)|||zaa)|||(yan|||(pv 3)|||zaa))|||zaa)|||zaa))<=<(~~~((ygP∪(yef>>>("abs",zcl,((pv 3)>=>yaa)))∪(ydo|||zaa|||zaa))*>((~~~(@ybp _ _ _ _ (@zdw _ _ _ _ _ _ _ _ _ _ _ _ PySem.F.plainAttrs_list PySem.F.slot_list_append PySem.F.type_list_append yaV (pv 2) ((yan|||(yef>>>("abs",zcl,((pv 3)>=>yaa)))|||(ygr|||(ydo|||zaa|||zaa)|||(ydo|||zaa|||zaa)))>=>yaa) (by rfl) (by rfl) (by rfl) (by rfl) (by rfl)) (by rfl))),yae))))))<=<(~~~((@zap _ _ _ _ ((pv 2)>=>(pv 1)>=>zaa>=>yaa))⁻¹))),?_⟩
  try dsimp only [cxOf]
  refine ⟨szl 0,fun g hg=>?_⟩
  have g1:Same H (upd H g (.lst [])):=yab hg _
  refine ⟨_,_,rfl,?_⟩
  refine ⟨_,rfl,_,rfl,a,_,rfl,g1.seq ha,fun l hl=>?_⟩
  generalize hcut:cutV (ns.map V.int) none (some 40)=cs
  have hcs:∀x∈cs,∃i:Int,x = .int i:=fun x hx=>by
    rw [←hcut] at hx
    unfold cutV at hx
    obtain ⟨i,_,e⟩:=List.mem_map.mp (List.mem_of_mem_drop (List.mem_of_mem_take hx))
    exact ⟨i,e.symm⟩
  have hlen:cs.length≤40:=by
    rw [←hcut];unfold cutV
    rw [List.length_take,show HT.sIx (ns.map V.int).length (ns.map V.int).length (some 40)=min 40 (ns.map V.int).length from HT.sIx_nat _ _ 40]
    lia
  have hgl:l≠g:=fun e=>by rw [e,zab] at hl;cases hl
  refine ⟨l,rfl,⟨_,SqL.of zab⟩,yem (xs:=cs) (fun i σ H'=>(Ex3 fun (s:Nat) (x:Option V) (gs:List Nat)=>gs.length≤i∧σ=[some (.ref a),some (Vn s),some (.ref g),x]∧H' g=some (.lst (gs.map Vn)))∧Same H H'∧H' l=some (.lst cs))
    ⟨⟨7,none,[],Nat.le_refl _,rfl,by rw [yad (Ne.symm hgl)];exact zab⟩,g1.trans (yab hl _),zab⟩ ?_ ?_ ?_⟩
  · rintro i σ H' hi ⟨_,_,h⟩;exact SqL.of h
  · rintro i x σ H' hx ⟨⟨s,x0,gs,hgs,rfl,hg'⟩,sm,hl'⟩
    obtain ⟨c,rfl⟩:=hcs x (List.mem_of_getElem? hx)
    have hi:i<cs.length:=(List.getElem?_eq_some_iff.mp hx).1
    walk_at "rd"
    refine ⟨.inr ⟨by decide,by decide⟩,?_⟩
    walk_at "rd"
    refine ⟨by show (0:Int)<2305843009213693951;decide,?_⟩
    walk_at "rd"
    refine ⟨by show (0:Int)<2305843009213693951;decide,?_⟩
    obtain ⟨s',es⟩:=zf4 (i:=((s:Int)*1000003+c%2305843009213693951+12345)%2305843009213693951) (Int.emod_nonneg _ (by decide))
    dsimp only [yat];rw [es]
    refine ⟨_,rfl,_,rfl,_,_,rfl,rfl,⟨by decide,by decide,by decide⟩,?_⟩
    refine ⟨_,_,rfl,rfl,_,rfl,?_⟩
    refine ite2 (fun c2=>?_) (fun c2=>?_)
    · refine ⟨_,rfl,.inl ⟨rfl,_,SqL.of hg'⟩,?_⟩
      refine ⟨_,rfl,_,rfl,_,_,rfl,rfl,⟨by decide,by decide,by decide⟩,?_⟩
      refine ⟨_,_,rfl,rfl,⟨by decide,by decide,by decide⟩,?_⟩
      refine ⟨_,_,rfl,rfl,IntMulOk.of_bits (by decide +kernel) (by decide +kernel),?_⟩
      refine ⟨_,_,rfl,rfl,by show (0:Int)<10^Int.toNat 60*10^Int.toNat 60;decide +kernel,?_⟩
      obtain ⟨d,ed⟩:=zf4 (i:=(if c<0 then -c else c)%(10^(60:Int).toNat*10^(60:Int).toNat)) (Int.emod_nonneg _ (by decide))
      (try dsimp only);rw [ed]
      refine ⟨g,_,_,rfl,rfl,hg',?_,⟨s',some (.int c),gs++[d],by simp;lia,rfl,by rw [zab,List.map_append];rfl⟩,?_,?_⟩
      · rw [List.length_map];exact Nat.lt_of_le_of_lt (show gs.length≤1000 by lia) (yai (Nat.le_refl _))
      · intro b o e
        rw [yad (yac e hg)]
        exact sm b o e
      · rw [yad hgl];exact hl'
    · exact ⟨⟨s',some (.int c),gs,by lia,rfl,hg'⟩,sm,hl'⟩
  · rintro σ H' ⟨⟨s,x,gs,hgs,rfl,hg'⟩,sm,_⟩
    refine ⟨_,rfl,_,rfl,szl 3,fun r hr=>?_⟩
    have ne:g≠r:=yac hg' hr
    refine q r g _ (sm.free hr) hg (sm.trans (yab hr _)) ⟨gs,s,0,zab,?_⟩
    rw [yad ne];exact hg'
theorem zdh {α:Type} (x:α) (xs:List α):atI (x::xs) 0=some x:=zaB (j:=0) rfl
theorem zec {n:Nat} (h:0<n):ixN n 0=some 0:=by
  unfold ixN
  rw [if_pos (by decide),if_pos (by lia)];rfl
theorem yaR (Ex:St→Hp→Prop) (r:∀σ' H',Ex σ' H'→u D σ' H') (h:∀D':Ends,D'.rt=D.rt→D'.bk=D.bk→D'.ct=D.ct→(∀σ' H',Ex σ' H'→D'.nx σ' H')→t D' σ H):tSeq t u D σ H:=h _ rfl rfl rfl r
inductive yaW (vs:List V) (H:Hp) (Q:VK) (E:XK):Prop
  | mk (a g:Addr) (n:Nat) (c1:vs=[.ref a,Vn n]) (c2:Pu H a g) (c3:0<n) (c4:n<2^200) (c5:∀(r:Nat) H',r<n→Pu H' a g→zaf a g H H'→Q (Vn r) H'):yaW vs H Q E
def yb9 (H:Hp) (g:Addr):Nat:=match H g with
  | some (.lst xs)=>xs.length
  | _=>0
theorem za4 {xs:List V} (h:H g=some (.lst xs)):yb9 H g=xs.length:=by unfold yb9;rw [h]
theorem modn {x:Int} {n:Nat} (h:0<n):∃r:Nat,r<n∧V.int (x%(n:Int))=Vn r:=by
  have h1:=Int.emod_nonneg x (show (n:Int)≠0 by lia)
  have h2:=Int.emod_lt_of_pos x (show (0:Int)<n by lia)
  exact ⟨(x%(n:Int)).toNat,by lia,by show V.int _=V.int _;congr 1;lia⟩
theorem yaE:yaf ["_law_purse_here","_law_many","_law_digit","_law_turn","_law_prime","_law_once","_law_mixed"] ["_law_purse_here","_law_many"] (zac ybG):=⟨rfl,rfl,rfl,by decide +kernel,rfl,by decide +kernel,by decide +kernel⟩
theorem ygy (B:Bl mg) (F:Fun K "_law_pick" "_law_pick" ybG f fd):FnOk P w K mg base CX0 1 f fd ["_law_purse_here","_law_many"] yaW:=by
  refine F.ok yaE (fun vs H Q E h=>?_) (fun cdv A outer s H vs Q E hr h=>?_)
  · obtain ⟨a,g,n,rfl,_⟩:=h;rfl
  obtain ⟨a,g,n,rfl,hP,hn,hn2,q⟩:=h
  have nag:=hP.ne
  refine ⟨_,((@zaG _ _ _ _ _ _ PassesOwn.never (@PW.pt _ _ _ (@yeb _ _ _ _ _ _ _ ((yeM hr.units0)∪(zai<<<(pv 0)<<<zaa)∪(@zap _ _ _ _ yaa)) (@ydW _ _ _ _ (zaZ∪(zai<<<(zai<<<(pv 0)<<<zaa)<<<zaa)∪zaa)))) (~~~(@ybp _ _ _ _ (@zdw _ _ _ _ _ _ _ _ _ _ _ _ PySem.F.plainAttrs_list PySem.F.slot_list_pop PySem.F.type_list_pop zfT (zai<<<(pv 0)<<<zaa) (zaa>=>yaa) (by rfl) (by rfl) (by rfl) (by rfl) (by rfl)) (by rfl))))<=<(((yeM hr.units0)∪(zai<<<(pv 0)<<<zaa)∪(@zap _ _ _ _ yaa))*>(((2<|>yaE.nd<|>(yan|||(zai<<<(zai<<<(pv 0)<<<zaa)<<<zaa)|||(pv 1)))<=<(@zdA _ _ _ _ _ _ (zgE|||(zai<<<(zai<<<(pv 0)<<<zaa)<<<zaa)|||(pv 1)) (@yel _ _ _ _ _ _ _ (zai<<<(pv 0)<<<zaa) zaa zce (by intro _;rfl)) (by rfl) (by rfl) (by rfl))<=<(~~~((pv 2)⁻¹))),yae))<=<(@zdA _ _ _ _ _ _ (yal|||(zai<<<(pv 0)<<<zaa)|||zaa) (@yel _ _ _ _ _ _ _ (pv 0) zaa zce (by intro _;rfl)) (by rfl) (by rfl) (by rfl))<=<(3<|>yaE.nd<|>(zai<<<(pv 0)<<<zaa))<=<(4<|>yaE.nd<|>(zai<<<(@zap _ _ _ _ (zaa>=>zaa>=>zaa>=>zaa>=>zaa>=>zaa>=>zaa>=>yaa))<<<(yan|||(pv 3)|||zaa)))<=<(5<|>yaE.nd<|>(yan|||(yal|||(zai<<<(pv 0)<<<zaa)|||(zaJ|||zaa|||(pv 3)))|||zaa))<=<(6<|>yaE.nd<|>(zaJ|||(yan|||(ydo|||(pv 5)|||zaa)|||zaa)|||(yal|||(zaJ|||zaa|||(pv 3))|||zaa)))<=<(~~~((yan|||(ydy|||(yan|||(yal|||(pv 6)|||(ydy|||(zai<<<(pv 0)<<<zaa)|||zaa))|||(pv 4))|||zaa)|||(pv 1))⁻¹))),?_⟩
  try dsimp only [cxOf]
  let I1:St→Hp→Prop:=fun σ H'=>An3 (σ=[some (.ref a),some (Vn n),none,none,none,none,none]) (Pu H' a g) (zaf a g H H')
  refine yaR I1 ?_ ?_
  · rintro σ H' ⟨rfl,⟨ns,x,t,ha,hg⟩,sm⟩
    let I2:St→Hp→Prop:=fun σ H1=>ns=[]∧σ=[some (.ref a),some (Vn n),none,none,none,none,none]∧H1 a=some (.lst [.ref g,Vn x,Vn t])∧H1 g=some (.lst [])∧zaf a g H H1
    refine yaR I2 ?_ ?_
    · rintro σ H1 ⟨rfl,rfl,ha,hg,sm⟩
      refine ⟨_,rfl,a,_,_,_,rfl,rfl,SqL.of ha,rfl,?_⟩
      refine ⟨_,_,rfl,rfl,?_⟩
      refine ⟨_,rfl,a,_,2,2,rfl,rfl,ha,rfl,?_⟩
      have h1:(upd H1 a (.lst [.ref g,Vn x,.int ((t:Int)+1)])) a=some (.lst [.ref g,Vn x,Vn (t+1)]):=zab
      have h2:(upd H1 a (.lst [.ref g,Vn x,.int ((t:Int)+1)])) g=some (.lst []):=by rw [yad (Ne.symm nag)];exact hg
      have h3:zaf a g H (upd H1 a (.lst [.ref g,Vn x,.int ((t:Int)+1)])):=fun b o n1 n2 e=>by rw [yad n1];exact sm b o n1 n2 e
      change tSeq _ _ _ _ (upd H1 a (.lst [.ref g,Vn x,.int ((t:Int)+1)]))
      generalize upd H1 a (.lst [.ref g,Vn x,.int ((t:Int)+1)])=H2 at h1 h2 h3 ⊢
      refine ⟨_,rfl,a,_,_,_,rfl,rfl,SqL.of h1,rfl,?_⟩
      refine ⟨szl 7,fun l hl=>?_⟩
      have nla:a≠l:=yac h1 hl
      have nlg:g≠l:=yac h2 hl
      refine ⟨_,rfl,_,_,rfl,rfl,by show (0:Int)<7;decide,?_⟩
      obtain ⟨k,hk,ek⟩:=modn (x:=((t+1:Nat):Int)) (n:=7) (by lia)
      have hprime:∃pr:Nat,61<pr∧atI [V.int 2147483629,.int 2147483587,.int 2147483579,.int 2147483563,.int 2147483549,.int 2147483543,.int 2147483497] (k:Int)=some (Vn pr):=by
        have:k=0∨k=1∨k=2∨k=3∨k=4∨k=5∨k=6:=by lia
        rcases this with rfl|rfl|rfl|rfl|rfl|rfl|rfl
        · exact ⟨2147483629,by decide,rfl⟩
        · exact ⟨2147483587,by decide,rfl⟩
        · exact ⟨2147483579,by decide,rfl⟩
        · exact ⟨2147483563,by decide,rfl⟩
        · exact ⟨2147483549,by decide,rfl⟩
        · exact ⟨2147483543,by decide,rfl⟩
        · exact ⟨2147483497,by decide,rfl⟩
      obtain ⟨pr,hpr,epr⟩:=hprime
      have ek':((t+1:Nat):Int)%(7:Int)=(k:Int):=by have:=V.int.inj ek;exact this
      refine ⟨l,_,k,Vn pr,rfl,ek,SqL.of zab,epr,?_⟩
      have h1':(upd H2 l (.lst [V.int 2147483629,.int 2147483587,.int 2147483579,.int 2147483563,.int 2147483549,.int 2147483543,.int 2147483497])) a=some (.lst [.ref g,Vn x,Vn (t+1)]):=by rw [yad nla];exact h1
      have h2':(upd H2 l (.lst [V.int 2147483629,.int 2147483587,.int 2147483579,.int 2147483563,.int 2147483549,.int 2147483543,.int 2147483497])) g=some (.lst []):=by rw [yad nlg];exact h2
      have h3':zaf a g H (upd H2 l (.lst [V.int 2147483629,.int 2147483587,.int 2147483579,.int 2147483563,.int 2147483549,.int 2147483543,.int 2147483497])):=h3.trans (Same.x (yab hl _))
      change tSeq _ _ _ _ (upd H2 l (.lst [V.int 2147483629,.int 2147483587,.int 2147483579,.int 2147483563,.int 2147483549,.int 2147483543,.int 2147483497]))
      generalize upd H2 l (.lst [V.int 2147483629,.int 2147483587,.int 2147483579,.int 2147483563,.int 2147483549,.int 2147483543,.int 2147483497])=H3 at h1' h2' h3' ⊢
      refine ⟨_,rfl,a,_,_,_,rfl,rfl,SqL.of h1',rfl,?_⟩
      refine ⟨_,rfl,_,_,rfl,rfl,.inl ⟨by decide,by decide⟩,?_⟩
      refine ⟨_,_,rfl,rfl,?_⟩
      refine ⟨_,_,rfl,rfl,by show (0:Int)<2147483647;decide,?_⟩
      obtain ⟨on,hon,eon⟩:=modn (x:=(x:Int)+65537*((t+1:Nat):Int)) (n:=2147483647) (by decide)
      dsimp only [yat]
      rw [show V.int (((x:Int)+65537*((t+1:Nat):Int))%2147483647)=Vn on from eon]
      refine ⟨_,rfl,_,_,rfl,rfl,⟨by decide,by decide,by show (on:Int).natAbs<2^64;lia⟩,?_⟩
      refine ⟨_,_,rfl,rfl,by show (0:Int)<2147483647;decide,?_⟩
      obtain ⟨o5,ho5,eo5⟩:=modn (x:=(on:Int)^(5:Int).toNat) (n:=2147483647) (by decide)
      refine ⟨_,rfl,_,_,rfl,rfl,.inl ⟨by decide,by decide⟩,?_⟩
      refine ⟨_,_,rfl,rfl,?_⟩
      have b5:(on:Int)^(5:Int).toNat%2147483647=(o5:Int):=V.int.inj eo5
      refine ⟨_,_,rfl,rfl,.inl ⟨by rw [b5];lia,by rw [b5];lia⟩,?_⟩
      refine ⟨_,rfl,_,rfl,a,_,_,_,rfl,rfl,SqL.of h1',rfl,?_⟩
      refine ⟨_,_,rfl,rfl,⟨by show (0:Int)<2147483647;decide,by show (2147483647:Int)<2^64;decide⟩,?_⟩
      refine ⟨_,_,rfl,rfl,?_⟩
      refine ⟨_,rfl,_,_,rfl,rfl,by show (0:Int)<(pr:Int);lia,?_⟩
      refine ⟨_,_,rfl,rfl,⟨by show (0:Int)<61;decide,by show (61:Int)<2^64;decide⟩,?_⟩
      refine ⟨_,rfl,_,_,rfl,rfl,by show (0:Int)<(n:Int);lia,?_⟩
      obtain ⟨r,hr',er⟩:=modn (x:=((on:Int)^(5:Int).toNat%2147483647*(2*((t+1:Nat):Int)+1)+(x:Int)/2147483647)%(pr:Int)/61) hn
      dsimp only
      rw [er]
      exact q r H3 hr' ⟨[],x,t+1,h1',h2'⟩ h3'
    · intro D' hrt _ _ hD
      refine ⟨_,rfl,a,_,_,_,rfl,rfl,SqL.of ha,rfl,szl 0,fun l hl=>?_⟩
      have nla:a≠l:=yac ha hl
      have nlg:g≠l:=yac hg hl
      have hg1:(upd H' l (.lst [])) g=some (.lst (ns.map Vn)):=by rw [yad nlg];exact hg
      have ha1:(upd H' l (.lst [])) a=some (.lst [.ref g,Vn x,Vn t]):=by rw [yad nla];exact ha
      have sm1:zaf a g H (upd H' l (.lst [])):=sm.trans (Same.x (yab hl _))
      refine ⟨g,l,_,rfl,rfl,SqL.of hg1,SqL.of zab,_,rfl,?_⟩
      refine ite2 (fun c=>?_) (fun c=>?_)
      · cases ns with
        | nil=>exact absurd c (by simp)
        | cons d ns =>
          refine ⟨_,rfl,a,_,_,_,rfl,rfl,SqL.of ha1,rfl,?_⟩
          refine ⟨g,_,_,_,rfl,rfl,SqL.of hg1,zdh _ _,?_⟩
          refine ⟨_,rfl,_,_,rfl,rfl,by show (0:Int)<(n:Int);lia,?_⟩
          refine ⟨_,rfl,a,_,_,_,rfl,rfl,SqL.of ha1,rfl,?_⟩
          refine ⟨g,_,_,_,rfl,rfl,SqL.of hg1,zdh _ _,?_⟩
          refine ⟨_,rfl,_,_,rfl,rfl,⟨by show (0:Int)<(n:Int);lia,by show (n:Int)<2^1000;lia⟩,?_⟩
          refine ⟨_,rfl,a,_,_,_,rfl,rfl,SqL.of ha1,rfl,?_⟩
          refine ⟨g,_,0,0,rfl,rfl,hg1,zec (by simp),?_⟩
          refine ⟨_,rfl,?_⟩
          rw [hrt]
          refine q (d%n) _ (Nat.mod_lt _ hn) ⟨(d/n)::ns,x,t,by rw [yad nag];exact ha1,zab⟩ fun b o n1 n2 e=>by rw [yad n2];exact sm1 b o n1 n2 e
      · cases ns with
        | nil=>exact hD _ _ ⟨rfl,rfl,ha1,hg1,sm1⟩
        | cons d ns=>exact absurd (by simp) c
  · intro D' _ _ _ hD
    let I3:St→Hp→Prop:=fun σ H'=>An3 (σ=[some (.ref a),some (Vn n),none,none,none,none,none]) (Pu H' a g) (zaf a g H H')
    refine zaI I3 (fun _ H'=>yb9 H' g) ⟨rfl,hP,zaf.refl⟩ ?_
    rintro σ H' ⟨rfl,⟨ns,x,t,ha,hg⟩,sm⟩
    refine ⟨_,rfl,a,_,_,_,rfl,rfl,SqL.of ha,rfl,szl 0,fun l hl=>?_⟩
    have nla:a≠l:=yac ha hl
    have nlg:g≠l:=yac hg hl
    have hg1:(upd H' l (.lst [])) g=some (.lst (ns.map Vn)):=by rw [yad nlg];exact hg
    have ha1:(upd H' l (.lst [])) a=some (.lst [.ref g,Vn x,Vn t]):=by rw [yad nla];exact ha
    have sm1:zaf a g H (upd H' l (.lst [])):=sm.trans (Same.x (yab hl _))
    refine ⟨g,l,_,rfl,rfl,SqL.of hg1,SqL.of zab,_,rfl,?_⟩
    refine ite2 (fun c=>?_) (fun c=>?_)
    · cases ns with
      | nil=>exact absurd c (by simp)
      | cons d ns =>
        refine ⟨_,rfl,a,_,_,_,rfl,rfl,SqL.of ha1,rfl,?_⟩
        refine ⟨g,_,_,_,rfl,rfl,SqL.of hg1,zdh _ _,?_⟩
        refine ⟨rfl,_,rfl,?_⟩
        refine ite2 (fun c=>?_) (fun c=>?_)
        · refine ⟨fun σ' H''=>σ'=[some (.ref a),some (Vn n),none,none,none,none,none]∧H''=upd (upd H' l (.lst [])) g (.lst (ns.map Vn)),?_,?_⟩
          · rintro σ' H'' ⟨rfl,rfl⟩
            refine ⟨_,?_,rfl,rfl,⟨ns,x,t,by rw [yad nag];exact ha1,zab⟩,fun b o n1 n2 e=>by rw [yad n2];exact sm1 b o n1 n2 e⟩
            rw [za4 hg,za4 (xs:=ns.map Vn) zab];simp
          · refine ⟨_,rfl,a,_,_,_,rfl,rfl,SqL.of ha1,rfl,.inl ⟨rfl,_,SqL.of hg1⟩,?_⟩
            exact ⟨g,_,0,0,Vn d,rfl,rfl,hg1,by decide,by decide,(ydZ (zec (by simp))).1,rfl,rfl,rfl⟩
        · exact hD _ _ ⟨rfl,⟨d::ns,x,t,ha1,hg1⟩,sm1⟩
    · refine ite2 (fun c2=>absurd c2 (by decide)) (fun _=>?_)
      exact hD _ _ ⟨rfl,⟨ns,x,t,ha1,hg1⟩,sm1⟩
end
end My
end
section
namespace My
open PySem L2 Dg
local macro_rules | `(tactic| walk_at "rd") => `(tactic| repeat (first | refine ⟨_, rfl, ?_⟩ | refine ⟨_, _, rfl, rfl, ?_⟩))
def sumN:Nat→(Nat→Nat)→Nat
  | 0,_=>0
  | n+1,g=>sumN n g+g n
theorem zcQ:∀(n:Nat) (g:Nat→Nat),sumN (n+1) g=g 0+sumN n fun j=>g (j+1)
  | 0,g=>by simp [sumN]
  | n+1,g=>by rw [sumN,zcQ n g,sumN];lia
theorem zeq {n:Nat} {g h:Nat→Nat} (e:∀j,j<n→g j=h j):sumN n g=sumN n h:=by
  induction n with
  | zero=>rfl
  | succ n ih=>rw [sumN,sumN,ih fun j hj=>e j (by lia),e n (by lia)]
def shN (j:Nat) (y:Nat→Nat) (i:Nat):Nat:=if j≤i then y (i-j) else 0
theorem zdo:∀(k:Nat) (f y:Nat→Nat) (i:Nat),yc6 k f y i=sumN k fun j=>f j*shN j y i
  | 0,_,_,_=>rfl
  | k+1,f,y,i=>by
    rw [zcQ]
    show f 0*y i+yaz (yc6 k (fun j=>f (j+1)) y) i=f 0*shN 0 y i+_
    congr 1
    unfold yaz
    by_cases h:i=0
    · rw [if_pos h]
      subst h
      have:∀n,sumN n (fun j=>f (j+1)*shN (j+1) y 0)=0:=fun n=>by
        induction n with
        | zero=>rfl
        | succ n ih=>rw [sumN,ih];unfold shN;rw [if_neg (by lia)];simp
      exact (this k).symm
    · rw [if_neg h,zdo k]
      refine zeq fun j _=>?_
      congr 1
      unfold shN
      by_cases h2:j+1≤i
      · rw [if_pos h2,if_pos (by lia)];congr 1;lia
      · rw [if_neg h2,if_neg (by lia)]
def rowL (p n:Nat) (c:Nat→Nat):List V:=(List.range n).map fun i=>Vn (c i%p)
theorem ybz (p n:Nat) (c:Nat→Nat):(rowL p n c).length=n:=by simp [rowL]
theorem zc1 {p n:Nat} (c:Nat→Nat) {i:Nat} (h:i<n):(rowL p n c)[i]?=some (Vn (c i%p)):=by
  unfold rowL;rw [List.getElem?_map,List.getElem?_range h];rfl
theorem ydY {p n:Nat} (c:Nat→Nat) {i:Nat} {j:Int} (h:i<n) (e:j=(i:Int)):atI (rowL p n c) j=some (Vn (c i%p)):=by
  subst e;exact zaB (zc1 c h)
theorem ya7 {p n:Nat} {c c':Nat→Nat} (h:∀i,i<n→c i%p=c' i%p):rowL p n c=rowL p n c':=by
  unfold rowL
  refine List.map_congr_left fun i hi=>?_
  rw [h i (List.mem_range.mp hi)]
theorem yfH {p n:Nat} (c:Nat→Nat) {s v:Nat} (h:s<n):(rowL p n c).set s (Vn (v%p))=rowL p n fun i=>if i=s then v else c i:=by
  refine List.ext_getElem? fun i=>?_
  by_cases hi:i<n
  · rw [zc1 _ hi,List.getElem?_set]
    by_cases e:s=i
    · subst e;rw [if_pos rfl,if_pos (by rw [ybz];exact hi),if_pos rfl]
    · rw [if_neg e,zc1 _ hi,if_neg (Ne.symm e)]
  · rw [List.getElem?_eq_none (by rw [List.length_set,ybz];lia),List.getElem?_eq_none (by rw [ybz];lia)]
theorem ze5 {p n:Nat} {c:Nat→Nat} {s v:Nat} (h:s<n) {c':Nat→Nat} (hc:∀i,i<n→c' i%p=(if i=s then c s%p+v else c i)%p):(rowL p n c).set s (Vn ((c s%p+v)%p))=rowL p n c' :=
  (yfH c h).trans (ya7 fun i hi=>(hc i hi).symm)
theorem yfl {n s:Nat} {j:Int} (h:s<n) (e:j=(s:Int)):ixN n j=some s:=by
  subst e
  unfold ixN
  rw [if_pos (by lia),if_pos (by lia)];simp
theorem yfF (p k:Nat) (hp:0<p):(List.replicate k [V.int 0]).flatten=rowL p k fun _=>0:=by
  induction k with
  | zero=>rfl
  | succ k ih =>
    rw [List.replicate_succ',List.flatten_append,ih]
    unfold rowL
    rw [List.range_succ,List.map_append]
    simp
section
variable {P:Program} {w:World} {mg:Str→Option Value} {base:Heap} {f:Addr} {fd:FuncData}
inductive ybB (K:PySem.W.Frag) (vs:List V) (H:Hp) (Q:VK) (E:XK):Prop
  | mk (a:Addr) (p m t x y:Nat) (c1:vs=[.ref a,.int x,.int y]) (c2:Fld K H a p m t) (c3:2≤p) (c4:1≤m) (c5:p^m≤64) (c6:t<p^m) (c7:x<p^m) (c8:y<p^m) (c9:∀(r:Nat) H',Same H H'→r<p^m→(∀i,i<m→dg p i r=tn m (fun i=>dg p i t) m (fun i=>dg p i x) (fun i=>dg p i y) i%p)→Q (.int r) H'):ybB K vs H Q E
theorem zcX {p m x i:Nat} (h:i<m):(digL p m x)[i]?=some (Vn (dg p i x)):=by
  unfold digL;rw [List.getElem?_map,List.getElem?_range h];rfl
theorem zfu (h:zaf l l H H'):zaf l l H (upd H' l o):=fun b u n1 n2 e=>by rw [yad n1];exact h b u n1 n2 e
theorem zfk (h:zaf l l H H') (hp:H' p=none):zaf l l H (upd H' p o):=h.trans (Same.x (yab hp o))
theorem yc3 (h:zaf l l H H') (hl:H l=none):Same H H':=fun b o e=>h b o (yac e hl) (yac e hl) e
theorem zag:yaf ["_law_field_here","_law_one","_law_other","_law_p","_law_m","_law_top","_law_row","_law_j","_law_digit","_law_k","_law_by","_law_place","_law_at"] ["_law_field_here","_law_one","_law_other"] (zac ya5):=⟨rfl,rfl,rfl,by decide +kernel,rfl,by decide +kernel,by decide +kernel⟩
theorem zes (B:Bl mg) (h__law_digits:Has P w K mg base 1 "_law_digits" ["_law_field_here","_law_thing"] (ych K)) (h__law_number:Has P w K mg base 1 "_law_number" ["_law_field_here","_law_digits_here"] (zcn K)) (F:Fun K "_law_product" "_law_product" ya5 f fd):FnOk P w K mg base CX0 2 f fd ["_law_field_here","_law_one","_law_other"] (ybB K):=by
  refine F.ok zag (fun vs H Q E h=>?_) (fun cdv A outer s H vs Q E hr h=>?_)
  · obtain ⟨a,p,m,t,x,y,rfl,_⟩:=h;rfl
  obtain ⟨a,p,m,t,x,y,rfl,hF,hp,hm,hpm,ht,hx,hy,q⟩:=h
  have hp2:=p_le hp hm hpm
  have hm6:=m_le hp hpm
  refine ⟨_,(((pv 0)≈((3&&&zag.nd)∩((4&&&zag.nd)∩((5&&&zag.nd)∩yaA))))<=<(6<|>zag.nd<|>(zgU|||(@zap _ _ _ _ (zaa>=>yaa))|||(ya1|||(zaJ|||zaa|||(pv 4))|||zaa)))<=<((@zdk _ _ _ _ _ _ _ _ rfl (B "enumerate" (by decide)) ((h__law_digits<$>((pv 0)>=>(pv 1)>=>yaa))>=>yaa) (by rfl))<&>((@ydn _ _ _ _ _ _ rfl ((7&&&zag.nd)∩((8&&&zag.nd)∩yaA)) (by rfl) (by rfl)),(~~~((@zdk _ _ _ _ _ _ _ _ rfl (B "enumerate" (by decide)) ((h__law_digits<$>((pv 0)>=>(pv 2)>=>yaa))>=>yaa) (by rfl))<&>((@ydn _ _ _ _ _ _ rfl ((9&&&zag.nd)∩((10&&&zag.nd)∩yaA)) (by rfl) (by rfl)),(~~~(@zdA _ _ _ _ _ _ (yan|||(yal|||(zai<<<(pv 6)<<<(yal|||(pv 7)|||(pv 9)))|||(zaJ|||(pv 8)|||(pv 10)))|||(pv 3)) (@yel _ _ _ _ _ _ _ (pv 6) (yal|||(pv 7)|||(pv 9)) zce (by intro _;rfl)) (by rfl) (by rfl) (by rfl))))))))<=<((@zgs _ _ _ _ _ _ _ _ rfl (B "range" (by decide)) ((ya1|||(zaJ|||zaa|||(pv 4))|||zaa)>=>(ya1|||(pv 4)|||zaa)>=>(@zch _ _ _ _ _ _ zbw zaa)>=>yaa) (by rfl) (by rfl))<&>((11&&&zag.nd),(~~~((@zdk _ _ _ _ _ _ _ _ rfl (B "enumerate" (by decide)) ((h__law_digits<$>((pv 0)>=>(pv 5)>=>yaa))>=>yaa) (by rfl))<&>((@ydn _ _ _ _ _ _ rfl ((9&&&zag.nd)∩((8&&&zag.nd)∩yaA)) (by rfl) (by rfl)),((12<|>zag.nd<|>(yal|||(ya1|||(pv 11)|||(pv 4))|||(pv 9)))<=<(~~~(@zdA _ _ _ _ _ _ (yan|||(yal|||(zai<<<(pv 6)<<<(pv 12))|||(zaJ|||(zai<<<(pv 6)<<<(pv 11))|||(pv 8)))|||(pv 3)) (@yel _ _ _ _ _ _ _ (pv 6) (pv 12) zce (by intro _;rfl)) (by rfl) (by rfl) (by rfl)))))))))<=<(~~~((h__law_number<$>((pv 0)>=>(@yak _ _ _ _ _ _ _ _ _ _ yff (pv 6) zaq (@yam _ _ _ (pv 4)))>=>yaa))⁻¹))),?_⟩
  try dsimp only [cxOf]
  refine ⟨_,rfl,a,_,rfl,hF,rfl,_,_,rfl,_,_,rfl,_,_,rfl,rfl,?_⟩
  refine ⟨szl 1,fun l0 hl0=>?_⟩
  refine ⟨_,rfl,_,_,rfl,rfl,.inl ⟨by decide,by decide⟩,?_⟩
  refine ⟨_,_,rfl,rfl,?_⟩
  have e21:(2*(m:Int)-1).toNat=2*m-1:=by lia
  refine ⟨l0,_,_,rfl,rfl,zab,by show -(2^63)≤2*(m:Int)-1;lia,by show 2*(m:Int)-1<2^63;lia,?_,fun l hl=>?_⟩
  · show 1*(2*(m:Int)-1).toNat≤sizeLine
    rw [e21];exact szl _
  dsimp only
  rw [e21,yfF p _ (by lia)]
  have hlH:H l=none:=(yab hl0 (.lst [.int 0])).free hl
  let I1:St→Hp→Prop:=fun σ H'=>Ex6 fun s7 s8 s9 s10 s11 s12=>An3 (σ=[some (.ref a),some (Vn x),some (Vn y),some (Vn p),some (Vn m),some (Vn t),some (.ref l),s7,s8,s9,s10,s11,s12]) (zaf l l H H') (H' l=some (.lst (rowL p (2*m-1) (yc6 m (fun i=>dg p i x) fun i=>dg p i y))))
  refine yaR I1 ?_ ?_
  · rintro σ H' ⟨s7,s8,s9,s10,s11,s12,rfl,sx,hrow⟩
    let I2:St→Hp→Prop:=fun σ H'=>Ex6 fun s7 s8 s9 s10 s11 s12=>An3 (σ=[some (.ref a),some (Vn x),some (Vn y),some (Vn p),some (Vn m),some (Vn t),some (.ref l),s7,s8,s9,s10,s11,s12]) (zaf l l H H') (∃c:Nat→Nat,H' l=some (.lst (rowL p (2*m-1) c))∧∀i,i<m→c i=tn m (fun i=>dg p i t) m (fun i=>dg p i x) (fun i=>dg p i y) i)
    refine yaR I2 ?_ ?_
    · rintro σ H' ⟨s7,s8,s9,s10,s11,s12,rfl,sx,c,hrow,hc⟩
      refine ⟨_,rfl,_,rfl,_,rfl,_,rfl,l,_,rfl,SqL.of hrow,fun l2 hl2=>?_⟩
      have sm2:Same H (upd H' l2 (.lst (cutV (rowL p (2*m-1) c) none (some (m:Int))))):=(yc3 sx hlH).trans (yab hl2 _)
      refine ⟨a,l2,p,m,t,(List.range m).map fun i=>c i%p,rfl,Same.tup sm2 hF,hp,hp2,?_,fun H3 s3=>?_⟩
      · refine SqL.of ?_
        rw [zab]
        congr 2
        unfold cutV
        rw [HT.sIx_none,show HT.sIx (rowL p (2*m-1) c).length (rowL p (2*m-1) c).length (some (m:Int))=min m (rowL p (2*m-1) c).length from HT.sIx_nat _ _ m,ybz,List.drop_zero,show min m (2*m-1)-0=m by lia]
        unfold rowL
        rw [←List.map_take,List.take_range,List.map_map,show min m (2*m-1)=m by lia]
        rfl
      · have hds:∀d∈(List.range m).map (fun i=>c i%p),d<p:=fun d hd=>by
          obtain ⟨i,_,rfl⟩:=List.mem_map.mp hd
          exact Nat.mod_lt _ (by lia)
        have hg:∀i,((List.range m).map fun i=>c i%p).getD i 0=if i<m then c i%p else 0:=fun i=>by
          by_cases hi:i<m
          · rw [if_pos hi,List.getD,List.getElem?_map,List.getElem?_range hi];rfl
          · rw [if_neg hi,List.getD,List.getElem?_eq_none (by simpa using hi)];rfl
        refine q _ _ (sm2.trans s3) (zbX hp fun i hi=>?_) fun i hi=>?_
        · rw [ye0 hp _ hds,hg,if_neg (by lia)]
        · rw [ye0 hp _ hds,hg,if_pos hi,hc i hi]
    · intro D' _ _ _ hD
      refine ⟨_,rfl,_,_,rfl,rfl,.inl ⟨by decide,by decide⟩,?_⟩
      refine ⟨_,_,rfl,rfl,?_⟩
      refine ⟨_,rfl,_,_,rfl,rfl,?_⟩
      refine ⟨_,rfl,?_⟩
      refine ⟨2*(m:Int)-2,(m:Int)-1,rfl,⟨by lia,by lia,by lia,by lia⟩,?_⟩
      let I3:Nat→St→Hp→Prop:=fun i σ H'=>Ex6 fun s7 s8 s9 s10 s11 s12=>An3 (σ=[some (.ref a),some (Vn x),some (Vn y),some (Vn p),some (Vn m),some (Vn t),some (.ref l),s7,s8,s9,s10,s11,s12]) (zaf l l H H') (∃c:Nat→Nat,H' l=some (.lst (rowL p (2*m-1) c))∧redF m (fun i=>dg p i t) (m-1-i) c=redF m (fun i=>dg p i t) (m-1) (yc6 m (fun i=>dg p i x) fun i=>dg p i y))
      refine ycx zeM I3 ⟨s7,s8,s9,s10,s11,s12,rfl,sx,_,hrow,rfl⟩ (fun _ _ _ _ _=>trivial) ?_ ?_
      · rintro i v σ H' H'' hi ⟨s7,s8,s9,s10,s11,s12,rfl,sx,c,hrow,hred⟩ ⟨rfl,rfl⟩
        obtain ⟨j,hj⟩:∃j,m-1-i=j+1:=⟨m-1-i-1,by lia⟩
        have eq:V.int (2*(m:Int)-2-(i:Int))=Vn (m+j):=by show V.int _=V.int _;congr 1;lia
        have hq:m+j<2*m-1:=by lia
        dsimp only [yat]
        rw [eq]
        refine ⟨_,rfl,_,rfl,a,p,m,t,t,rfl,Same.tup (yc3 sx hlH) hF,hp,hp2,by lia,fun b2 H2 hb2' s2 e2=>?_⟩
        have nb2:b2≠l:=fun e=>by rw [e,hrow] at hb2';cases hb2'
        refine ⟨false,b2,rfl,⟨_,SqL.of e2⟩,?_⟩
        let I4:Nat→St→Hp→Prop:=fun k σ H'=>Ex5 fun s7 s8 s9 s10 s12=>An4 (σ=[some (.ref a),some (Vn x),some (Vn y),some (Vn p),some (Vn m),some (Vn t),some (.ref l),s7,s8,s9,s10,some (Vn (m+j)),s12]) (zaf l l H H') (H' b2=some (.lst (digL p m t))) (H' l=some (.lst (rowL p (2*m-1) fun i=>c i+if j≤i∧i<j+k then c (m+j)*dg p (i-j) t else 0)))
        refine ycx (ybK (K:=K) (b:=false) (l:=b2) (xs:=digL p m t)) I4 ⟨s7,s8,s9,s10,s12,rfl,sx.trans (Same.x s2),e2,?_⟩ ?_ ?_ ?_
        · rw [s2 _ _ hrow]
          congr 2
          refine ya7 fun i _=>?_
          rw [if_neg (by lia)];rfl
        · rintro i σ H' _ ⟨s7,s8,s9,s10,s12,rfl,_,h,_⟩;exact SqL.of h
        · rintro k v σ H' H'' hk ⟨s7,s8,s9,s10,s12,rfl,sx,hc,hrow⟩ ⟨T,u,rfl,eu,hT,rfl⟩
          rw [ybg] at hk
          rw [zcX hk] at eu;cases eu
          refine ⟨T,_,rfl,SqT.of zab,rfl,_,_,rfl,_,_,rfl,rfl,?_⟩
          have sx3:zaf l l H (upd H' T (.tup [.int k,Vn (dg p k t)])):=zfk sx hT
          have hc3:(upd H' T (.tup [.int k,Vn (dg p k t)])) b2=some (.lst (digL p m t)):=by rw [yad (yac hc hT)];exact hc
          have hr3:=(yad (o:=.tup [.int k,Vn (dg p k t)]) (yac hrow hT)).trans hrow
          generalize upd H' T (.tup [.int k,Vn (dg p k t)])=G at sx3 hc3 hr3 ⊢
          have hjk:j+k<2*m-1:=by lia
          have hmp:∀z,z%p<p:=fun z=>Nat.mod_lt _ (by lia)
          refine ⟨_,rfl,_,rfl,_,_,rfl,rfl,?_⟩
          refine ⟨_,rfl,_,_,rfl,rfl,?_⟩
          have eat:V.int (((m+j:Nat):Int)-(m:Int)+((k:Nat):Int))=Vn (j+k):=by show V.int _=V.int _;congr 1;lia
          dsimp only [yat]
          rw [eat]
          refine ⟨_,rfl,_,rfl,l,_,_,_,rfl,rfl,SqL.of hr3,ydY _ hjk rfl,?_⟩
          refine ⟨_,rfl,_,rfl,l,_,_,_,rfl,rfl,SqL.of hr3,ydY _ hq rfl,?_⟩
          have hmq:=hmp (c (m+j)+if j≤m+j∧m+j<j+k then c (m+j)*dg p (m+j-j) t else 0)
          refine ⟨_,rfl,_,_,rfl,rfl,.inl ⟨by lia,by lia⟩,?_⟩
          refine ⟨_,_,rfl,rfl,?_⟩
          refine ⟨_,rfl,_,_,rfl,rfl,by show (0:Int)<(p:Int);lia,?_⟩
          refine ⟨_,rfl,_,rfl,?_⟩
          refine ⟨l,_,_,j+k,rfl,rfl,hr3,yfl (by rw [ybz];exact hjk) rfl,?_⟩
          refine ⟨s7,_,_,s10,_,rfl,zfu sx3,by rw [yad nb2];exact hc3,?_⟩
          rw [zab]
          congr 2
          refine ze5 (v:=(c (m+j)+if j≤m+j∧m+j<j+k then c (m+j)*dg p (m+j-j) t else 0)%p*dg p k t) hjk fun i hi=>?_
          by_cases e:i=j+k
          · subst e
            rw [if_pos rfl,if_pos (by lia),if_neg (by lia),if_neg (by lia),Nat.add_zero,Nat.add_zero,show j+k-j=k by lia,Nat.mod_add_mod]
            exact ybb rfl (ydc (Nat.mod_mod _ _).symm rfl)
          · rw [if_neg e]
            congr 2
            by_cases h2:j≤i∧i<j+k
            · rw [if_pos h2,if_pos (by lia)]
            · rw [if_neg h2,if_neg (by lia)]
        · rintro σ H' ⟨s7,s8,s9,s10,s12,rfl,sx,hc,hrow⟩
          refine ⟨s7,s8,s9,s10,_,s12,rfl,sx,_,hrow,?_⟩
          rw [←hred,hj,show m-1-(i+1)=j by lia]
          show _=redF m (fun i=>dg p i t) j (zbh m (fun i=>dg p i t) (m+j) c)
          congr 1
          funext z
          unfold zbh
          rw [ybg,show m+j-m=j by lia]
          congr 1
          by_cases h2:j≤z∧z<j+m
          · rw [if_pos h2,if_pos (by lia)]
          · rw [if_neg h2,if_neg (by lia)]
      · rintro σ H' ⟨s7,s8,s9,s10,s11,s12,rfl,sx,c,hrow,hred⟩
        refine hD _ _ ⟨s7,s8,s9,s10,s11,s12,rfl,sx,c,hrow,fun i hi=>?_⟩
        rw [show m-1-(2*(m:Int)-2-((m:Int)-1)).toNat=0 by lia] at hred
        have e:=congrFun hred i
        have e2:=yd4 (t:=fun i=>dg p i t) hm (m-1) (fun i=>dg p i x) (fun i=>dg p i y) (fun z hz=>zaz hp hy hz) i hi
        rw [show m-1+1=m by lia] at e2
        exact e.trans e2
  · intro D' _ _ _ hD
    refine ⟨_,rfl,_,rfl,a,p,m,t,x,rfl,Same.tup ((yab hl0 _).trans (yab hl _)) hF,hp,hp2,by lia,fun b1 H1 hb1 s1 e1=>?_⟩
    have hl1:H1 l=some (.lst (rowL p (2*m-1) fun _=>0)):=s1 _ _ zab
    have nb1:b1≠l:=fun e=>by rw [e,zab] at hb1;cases hb1
    have sx1:zaf l l H H1:=Same.x (((yab hl0 _).trans (yab hl _)).trans s1)
    refine ⟨false,b1,rfl,⟨_,SqL.of e1⟩,?_⟩
    let I5:Nat→St→Hp→Prop:=fun j σ H'=>Ex6 fun s7 s8 s9 s10 s11 s12=>An4 (σ=[some (.ref a),some (Vn x),some (Vn y),some (Vn p),some (Vn m),some (Vn t),some (.ref l),s7,s8,s9,s10,s11,s12]) (zaf l l H H') (H' b1=some (.lst (digL p m x))) (H' l=some (.lst (rowL p (2*m-1) fun i=>sumN j fun j'=>dg p j' x*shN j' (fun i=>dg p i y) i)))
    refine ycx (ybK (K:=K) (b:=false) (l:=b1) (xs:=digL p m x)) I5 ⟨none,none,none,none,none,none,rfl,sx1,e1,hl1⟩ ?_ ?_ ?_
    · rintro i σ H' _ ⟨s7,s8,s9,s10,s11,s12,rfl,_,h,_⟩;exact SqL.of h
    · rintro j v σ H' H'' hj ⟨s7,s8,s9,s10,s11,s12,rfl,sx,hb,hrow⟩ ⟨T,u,rfl,eu,hT,rfl⟩
      rw [ybg] at hj
      rw [zcX hj] at eu;cases eu
      refine ⟨T,_,rfl,SqT.of zab,rfl,_,_,rfl,_,_,rfl,rfl,?_⟩
      have sx2:zaf l l H (upd H' T (.tup [.int j,Vn (dg p j x)])):=zfk sx hT
      have hb2:(upd H' T (.tup [.int j,Vn (dg p j x)])) b1=some (.lst (digL p m x)):=by rw [yad (yac hb hT)];exact hb
      have hr2:(upd H' T (.tup [.int j,Vn (dg p j x)])) l=some (.lst (rowL p (2*m-1) fun i=>sumN j fun j'=>dg p j' x*shN j' (fun i=>dg p i y) i)):=by rw [yad (yac hrow hT)];exact hrow
      generalize upd H' T (.tup [.int j,Vn (dg p j x)])=G at sx2 hb2 hr2 ⊢
      refine ⟨_,rfl,_,rfl,a,p,m,t,y,rfl,Same.tup (yc3 sx2 hlH) hF,hp,hp2,by lia,fun b2 H2 hb2' s2 e2=>?_⟩
      have nb2:b2≠l:=fun e=>by rw [e,hr2] at hb2';cases hb2'
      refine ⟨false,b2,rfl,⟨_,SqL.of e2⟩,?_⟩
      let I6:Nat→St→Hp→Prop:=fun k σ H'=>Ex4 fun s9 s10 s11 s12=>An5 (σ=[some (.ref a),some (Vn x),some (Vn y),some (Vn p),some (Vn m),some (Vn t),some (.ref l),some (Vn j),some (Vn (dg p j x)),s9,s10,s11,s12]) (zaf l l H H') (H' b1=some (.lst (digL p m x))) (H' b2=some (.lst (digL p m y))) (H' l=some (.lst (rowL p (2*m-1) fun i=>sumN j (fun j'=>dg p j' x*shN j' (fun i=>dg p i y) i)+if j≤i∧i<j+k then dg p j x*dg p (i-j) y else 0)))
      refine ycx (ybK (K:=K) (b:=false) (l:=b2) (xs:=digL p m y)) I6 ⟨s9,s10,s11,s12,rfl,sx2.trans (Same.x s2),s2 _ _ hb2,e2,?_⟩ ?_ ?_ ?_
      · rw [s2 _ _ hr2]
        congr 2
        refine ya7 fun i _=>?_
        rw [if_neg (by lia)];rfl
      · rintro i σ H' _ ⟨s9,s10,s11,s12,rfl,_,_,h,_⟩;exact SqL.of h
      · rintro k v σ H' H'' hk ⟨s9,s10,s11,s12,rfl,sx,hb,hc,hrow⟩ ⟨T,u,rfl,eu,hT,rfl⟩
        rw [ybg] at hk
        rw [zcX hk] at eu;cases eu
        refine ⟨T,_,rfl,SqT.of zab,rfl,_,_,rfl,_,_,rfl,rfl,?_⟩
        have sx3:zaf l l H (upd H' T (.tup [.int k,Vn (dg p k y)])):=zfk sx hT
        have hb3:(upd H' T (.tup [.int k,Vn (dg p k y)])) b1=some (.lst (digL p m x)):=by rw [yad (yac hb hT)];exact hb
        have hc3:(upd H' T (.tup [.int k,Vn (dg p k y)])) b2=some (.lst (digL p m y)):=by rw [yad (yac hc hT)];exact hc
        have hr3:=(yad (o:=.tup [.int k,Vn (dg p k y)]) (yac hrow hT)).trans hrow
        generalize upd H' T (.tup [.int k,Vn (dg p k y)])=G at sx3 hb3 hc3 hr3 ⊢
        have d1:=ygX hp j x
        have hjk:j+k<2*m-1:=by lia
        refine ⟨_,rfl,_,rfl,_,rfl,_,_,rfl,rfl,?_⟩
        refine ⟨l,_,_,_,rfl,rfl,SqL.of hr3,ydY _ hjk rfl,?_⟩
        refine ⟨_,rfl,_,rfl,_,_,rfl,rfl,.inl ⟨by show -(2^64:Int)<((dg p j x:Nat):Int);lia,by show ((dg p j x:Nat):Int)<2^64;lia⟩,?_⟩
        refine ⟨_,_,rfl,rfl,?_⟩
        refine ⟨_,rfl,_,_,rfl,rfl,by show (0:Int)<(p:Int);lia,?_⟩
        refine ⟨_,rfl,_,rfl,_,rfl,_,_,rfl,rfl,?_⟩
        refine ⟨l,_,_,j+k,rfl,rfl,hr3,yfl (by rw [ybz];exact hjk) rfl,?_⟩
        refine ⟨_,_,s11,s12,rfl,zfu sx3,by rw [yad nb1];exact hb3,by rw [yad nb2];exact hc3,?_⟩
        rw [zab]
        congr 2
        refine ze5 (v:=dg p j x*dg p k y) hjk fun i hi=>?_
        by_cases e:i=j+k
        · subst e
          rw [if_pos rfl,if_pos (by lia),if_neg (by lia),Nat.add_zero,show j+k-j=k by lia,Nat.mod_add_mod]
        · rw [if_neg e]
          congr 2
          by_cases h2:j≤i∧i<j+k
          · rw [if_pos h2,if_pos (by lia)]
          · rw [if_neg h2,if_neg (by lia)]
      · rintro σ H' ⟨s9,s10,s11,s12,rfl,sx,hb,hc,hrow⟩
        refine ⟨_,_,s9,s10,s11,s12,rfl,sx,hb,?_⟩
        rw [hrow,ybg]
        congr 2
        refine ya7 fun i _=>?_
        rw [sumN]
        congr 2
        unfold shN
        by_cases h1:j≤i
        · rw [if_pos h1]
          by_cases h2:i<j+m
          · rw [if_pos ⟨h1,h2⟩]
          · rw [if_neg (by lia)];show 0=dg p j x*dg p (i-j) y;rw [zaz hp hy (by lia),Nat.mul_zero]
        · rw [if_neg h1,if_neg (by lia),Nat.mul_zero]
    · rintro σ H' ⟨s7,s8,s9,s10,s11,s12,rfl,sx,hb,hrow⟩
      refine hD _ _ ⟨s7,s8,s9,s10,s11,s12,rfl,sx,?_⟩
      rw [hrow,ybg]
      congr 2
      exact ya7 fun i _=>by rw [zdo]
end
end My
end
section
namespace My
open PySem L2 Dg
section
variable {P:Program} {w:World} {mg:Str→Option Value} {base:Heap} {f:Addr} {fd:FuncData}
theorem zhf {b:Bool} (h:¬ (!b)=true):b=true:=by cases b <;> simp_all
inductive zdZ (K:PySem.W.Frag) (vs:List V) (H:Hp) (Q:VK) (E:XK):Prop
  | mk (a:Addr) (p m t:Nat) (c1:vs=[.ref a]) (c2:Fld K H a p m t) (c3:2≤p) (c4:1≤m) (c5:p^m≤64) (c6:t<p^m) (c7:∀(b:Bool) H',Same H H'→(b=true→∀x y,0<x→x<p^m→x<p^(m/2+1)→0<y→y<p^m→mul p m t x y≠0)→Q (.bl b) H'):zdZ K vs H Q E
theorem zar:yaf ["_law_field_here","_law_p","_law_m","_law_top","_law_many","_law_one"] ["_law_field_here"] (zac yaM):=⟨rfl,rfl,rfl,by decide +kernel,rfl,by decide +kernel,by decide +kernel⟩
end
end My
end
section
namespace My
open PySem L2 Dg
theorem zfy {p m:Nat} (h:(p,m)∈Dg.menu):(p,1)∈Dg.menu:=(by decide +kernel:∀c∈Dg.menu,(c.1,1)∈Dg.menu) (p,m) h
def zeF:List (Int×Int)→TA
  | []=>tNil
  | (p,m)::r=>zcG (tTup (zcG (tC (.int p)) (zcG (tC (.int m)) tNil))) (zeF r)
@[irreducible] noncomputable def yc1 (ps:List (Int×Int)):TA:=zeF ps
theorem zc7 (ps:List (Int×Int)):yc1 ps=zeF ps:=by unfold yc1;rfl
theorem zdl:yc1 []=tNil:=by rw [zc7];rfl
theorem zcT {p m:Int} {r:List (Int×Int)}:yc1 ((p,m)::r)=zcG (tTup (zcG (tC (.int p)) (zcG (tC (.int m)) tNil))) (yc1 r):=by rw [zc7,zc7];rfl
section
variable {X:Cx}
theorem ycD:PA X [] (yc1 []):=by rw [zdl];exact yaa
theorem zah {p m:Int} {k1 k2 c:Nat} {p1 p2 p3:Pos} {es:List Expr} {r:List (Int×Int)} (h:PA X es (yc1 r)):PA X (.Tuple [.Constant (.int p) k1 p1,.Constant (.int m) k2 p2] c p3::es) (yc1 ((p,m)::r)):=by
  rw [zcT]
  exact zcu (yax (zcu zaa (zcu zaa yaa))) h
end
def ycQ (H:Hp) (t:Addr):Prop:=Ex2 fun (p m:Nat)=>H t=some (.tup [Vn p,Vn m])∧(p,m)∈Dg.menu
theorem ycQ.same (h:ycQ H t) (s:∀o,H t=some o→H' t=some o):ycQ H' t:=by
  obtain ⟨p,m,e,q⟩:=h;exact ⟨p,m,s _ e,q⟩
theorem ycn:∀(ps:List (Int×Int)) (σ:St) (H:Hp) (Q:List V→Hp→Prop),(∀x∈ps,Ex2 fun (p m:Nat)=>x=((p:Int),(m:Int))∧(p,m)∈Dg.menu)→
    (∀(ts:List Addr) H',Same H H'→ts.length=ps.length→(∀t∈ts,H t=none∧ycQ H' t)→Q (ts.map V.ref) H')→yc1 ps σ H Q
  | [],σ,H,Q,_,q=>by rw [zdl];exact q [] H (Same.refl _) rfl (fun t ht=>nomatch ht)
  | (p,m)::r,σ,H,Q,hp,q=>by
    rw [zcT]
    refine ⟨szl 2,fun t ht=>?_⟩
    obtain ⟨p',m',e,b⟩:=hp (p,m) List.mem_cons_self
    cases e
    refine ycn r σ _ _ (fun x hx=>hp x (List.mem_cons_of_mem _ hx)) fun ts H' s hl hts=>?_
    refine q (t::ts) H' ((yab ht _).trans s) (by simp [hl]) fun t' ht'=>?_
    rcases List.mem_cons.mp ht' with e|e
    · subst e;exact ⟨ht,p',m',s _ _ zab,b⟩
    · exact ⟨(yab ht _).free (hts t' e).1,(hts t' e).2⟩
structure Menu (a g:Addr) (H:Hp) (l:Addr) (n:Nat):Prop where
  ex:∃ts:List Addr,H l=some (.lst (ts.map V.ref))∧ts.length=n∧∀t∈ts,t≠a∧t≠g∧ycQ H t
  na:l≠a
  ng:l≠g
theorem Menu.x {n:Nat} (h:Menu a g H l n) (s:zaf a g H H'):Menu a g H' l n:=by
  obtain ⟨⟨ts,h1,h2,h3⟩,na,ng⟩:=h
  exact ⟨⟨ts,s _ _ na ng h1,h2,fun t ht=>⟨(h3 t ht).1,(h3 t ht).2.1,(h3 t ht).2.2.same fun o e=>s _ _ (h3 t ht).1 (h3 t ht).2.1 e⟩⟩,na,ng⟩
section
variable {P:Program} {w:World} {mg:Str→Option Value} {base:Heap} {f:Addr} {fd:FuncData}
def zbQ:List Nat:=[17,19,23,29,31,37,41,43,47,53,59]
inductive ycW (vs:List V) (H:Hp) (Q:VK) (E:XK):Prop
  | mk (a g:Addr) (c1:vs=[.ref a]) (c2:Pu H a g) (c3:∀(r:Addr) (p m t:Nat) H',r≠a→r≠g→H r=none→H' r=some (.tup [Vn p,Vn m,Vn t])→Good p m t→Pu H' a g→zaf a g H H'→Q (.ref r) H'):ycW vs H Q E
theorem zak:yaf ["_law_purse_here","_law_some","_law_size","_law_p","_law_m","_law_many","_law_start","_law_turn","_law_field_here"] ["_law_purse_here"] (zac za1):=⟨rfl,rfl,rfl,by decide +kernel,rfl,by decide +kernel,by decide +kernel⟩
theorem Pu.lt (h:Pu H a g) (hl:H l=none):l≠a∧l≠g:=by
  obtain ⟨ns,s,t,h1,h2⟩:=h
  exact ⟨Ne.symm (yac h1 hl),Ne.symm (yac h2 hl)⟩
theorem yfM (B:Bl mg) (h__law_pick:Has P w K mg base 1 "_law_pick" ["_law_purse_here","_law_many"] yaW) (h__law_raised:Has P w K mg base 1 "_law_raised" ["_law_one","_law_many"] yag) (h__law_is_good:Has P w K mg base 3 "_law_is_good" ["_law_field_here"] (zdZ K)) (F:Fun K "_law_field" "_law_field" za1 f fd):FnOk P w K mg base CX0 4 f fd ["_law_purse_here"] ycW:=by
  refine F.ok zak (fun vs H Q E h=>?_) (fun cdv A outer s H vs Q E hr h=>?_)
  · obtain ⟨a,g,rfl,_⟩:=h;rfl
  obtain ⟨a,g,rfl,hP,q⟩:=h
  refine ⟨_,((1<|>zak.nd<|>(@zap _ _ _ _ (@zah _ _ _ _ _ _ _ _ _ _ _ (@zah _ _ _ _ _ _ _ _ _ _ _ (@zah _ _ _ _ _ _ _ _ _ _ _ (@zah _ _ _ _ _ _ _ _ _ _ _ (@zah _ _ _ _ _ _ _ _ _ _ _ (@zah _ _ _ _ _ _ _ _ _ _ _ (@zah _ _ _ _ _ _ _ _ _ _ _ (@zah _ _ _ _ _ _ _ _ _ _ _ (@zah _ _ _ _ _ _ _ _ _ _ _ (@zah _ _ _ _ _ _ _ _ _ _ _ (@zah _ _ _ _ _ _ _ _ _ _ _ (@zah _ _ _ _ _ _ _ _ _ _ _ ycD))))))))))))))<=<(2<|>zak.nd<|>(h__law_pick<$>((pv 0)>=>zaa>=>yaa)))<=<((zaZ∪(pv 2)∪zaa)*>((~~~(1<|>zak.nd<|>(@zap _ _ _ _ (@zah _ _ _ _ _ _ _ _ _ _ _ (@zah _ _ _ _ _ _ _ _ _ _ _ (@zah _ _ _ _ _ _ _ _ _ _ _ (@zah _ _ _ _ _ _ _ _ _ _ _ ycD))))))),yae))<=<((zaZ∪(pv 2)∪zaa)*>((~~~(@ycs _ 1 _ _ _ _ _ _ _ _ _ ["_law_p"] [] [] _ _ _ _ zak.nd rfl (Or.inl rfl) (id (α:=CSc ["_law_purse_here","_law_some","_law_size","_law_p","_law_m","_law_many","_law_start","_law_turn","_law_field_here"] (zac za1) ["_law_p"] [] [] _) ⟨by rfl,by decide +kernel,by decide +kernel,by decide +kernel,by decide +kernel,by rfl,by decide +kernel⟩) rfl (@yb2 _ _ _ _ (@zap _ _ _ _ (zaa>=>zaa>=>zaa>=>zaa>=>zaa>=>zaa>=>zaa>=>zaa>=>zaa>=>zaa>=>zaa>=>yaa))) (fun cl C fp s H=>(0⊇["_law_p"])) (fun _ _ _ _ _=>zaP) (fun _ _ _ _ _=>(@yax _ _ _ _ _ ((pv 0)>=>zaa>=>yaa))) (by rfl) (by intro _;rfl) (by trivial))),yae))<=<((zai<<<(pv 1)<<<(h__law_pick<$>((pv 0)>=>(yah>>>("len",PySem.boot_len,((pv 1)>=>yaa)))>=>yaa)))≈((3&&&zak.nd)∩((4&&&zak.nd)∩yaA)))<=<(5<|>zak.nd<|>(h__law_raised<$>((pv 3)>=>(pv 4)>=>yaa)))<=<(6<|>zak.nd<|>(h__law_pick<$>((pv 0)>=>(pv 5)>=>yaa)))<=<((↑((pv 5)>=>yaa))<&>((7&&&zak.nd),((8<|>zak.nd<|>(@yax _ _ _ _ _ ((pv 3)>=>(pv 4)>=>(yan|||(yal|||(pv 6)|||(pv 7))|||(pv 5))>=>yaa)))<=<(~~~((@PW.pt _ _ _ (@yaQ _ _ _ _ _ _ _ (zaZ∪(pv 4)∪zaa) (@yaD _ _ _ _ (@yar _ _ _ (h__law_is_good<$>((pv 8)>=>yaa)) (by intro _;rfl)))))*>((~~~((pv 8)⁻¹)),yae))))))<=<(~~~((@yax _ _ _ _ _ ((pv 3)>=>zaa>=>zaa>=>yaa))⁻¹))),?_⟩
  try dsimp only [cxOf]
  refine ycn [(2,1),(2,2),(2,3),(2,4),(3,1),(3,2),(3,3),(5,1),(5,2),(7,1),(11,1),(13,1)] _ H _ ?_ fun ts H0 s0 hts hpair=>?_
  · intro x hx
    simp only [List.mem_cons,List.not_mem_nil,or_false] at hx
    rcases hx with rfl|rfl|rfl|rfl|rfl|rfl|rfl|rfl|rfl|rfl|rfl|rfl
    · exact ⟨2,1,rfl,by decide +kernel⟩
    · exact ⟨2,2,rfl,by decide +kernel⟩
    · exact ⟨2,3,rfl,by decide +kernel⟩
    · exact ⟨2,4,rfl,by decide +kernel⟩
    · exact ⟨3,1,rfl,by decide +kernel⟩
    · exact ⟨3,2,rfl,by decide +kernel⟩
    · exact ⟨3,3,rfl,by decide +kernel⟩
    · exact ⟨5,1,rfl,by decide +kernel⟩
    · exact ⟨5,2,rfl,by decide +kernel⟩
    · exact ⟨7,1,rfl,by decide +kernel⟩
    · exact ⟨11,1,rfl,by decide +kernel⟩
    · exact ⟨13,1,rfl,by decide +kernel⟩
  refine ⟨by rw [List.length_map,hts];exact szl 12,fun l hl=>?_⟩
  have hP0:Pu (upd H0 l (.lst (ts.map V.ref))) a g:=hP.same (s0.trans (yab hl _))
  have sx0:zaf a g H (upd H0 l (.lst (ts.map V.ref))):=Same.x (s0.trans (yab hl _))
  have M0:Menu a g (upd H0 l (.lst (ts.map V.ref))) l 12:=by
    have n1:=(hP.same s0).lt hl
    refine ⟨⟨ts,zab,hts,fun t ht=>?_⟩,n1.1,n1.2⟩
    have n2:=hP.lt (hpair t ht).1
    exact ⟨n2.1,n2.2,(hpair t ht).2.same fun o e=>(yab hl _) _ _ e⟩
  generalize upd H0 l (.lst (ts.map V.ref))=G at hP0 sx0 M0 ⊢
  refine ⟨_,rfl,a,g,8,rfl,hP0,by lia,by lia,fun sz H1 hsz hP1 sx1=>?_⟩
  have sxA:=sx0.trans sx1
  have M1:=M0.x sx1
  dsimp only [yat]
  let I1:St→Hp→Prop:=fun σ H'=>Ex2 fun l n=>An6 (0<n) (n≤12) (Menu a g H' l n) (Pu H' a g) (zaf a g H H') (σ=[some (.ref a),some (.ref l),some (Vn sz),none,none,none,none,none,none])
  refine yaR I1 ?_ ?_
  · rintro σ H2 ⟨l,n,hn,hn2,M2,hP2,sx2,rfl⟩
    let I2:St→Hp→Prop:=fun σ H'=>Ex2 fun l n=>An6 (0<n) (n≤12) (Menu a g H' l n) (Pu H' a g) (zaf a g H H') (σ=[some (.ref a),some (.ref l),some (Vn sz),none,none,none,none,none,none])
    refine yaR I2 ?_ ?_
    · rintro σ H3 ⟨l,n,hn,hn2,M3,hP3,sx3,rfl⟩
      obtain ⟨ts3,e3,l3,p3⟩:=M3.ex
      refine ⟨_,rfl,_,rfl,_,rfl,l,_,rfl,.inl (SqL.of e3),?_⟩
      refine ⟨a,g,n,by rw [List.length_map,l3];rfl,hP3,hn,by lia,fun i H4 hi hP4 sx4=>?_⟩
      obtain ⟨ts4,e4,l4,p4⟩:=(M3.x sx4).ex
      have hi4:i<ts4.length:=by lia
      refine ⟨l,_,_,.ref (ts4[i]),rfl,rfl,SqL.of e4,zaB (by rw [List.getElem?_map,List.getElem?_eq_getElem hi4];rfl),?_⟩
      obtain ⟨_,_,p,m,ep,hmem⟩:=p4 ts4[i] (List.getElem_mem hi4)
      obtain ⟨hp,hm,hpm⟩:=zaE hmem
      have hp2:=p_le hp hm hpm
      have hm6:=m_le hp hpm
      have hpos:0<p^m:=Nat.pow_pos (by lia)
      refine ⟨ts4[i],_,rfl,SqT.of ep,rfl,_,_,rfl,_,_,rfl,rfl,?_⟩
      refine ⟨_,rfl,_,rfl,p,m,rfl,hp2,by lia,?_⟩
      refine ⟨_,rfl,_,rfl,a,g,p^m,rfl,hP4,hpos,by lia,fun st H5 hst hP5 sx5=>?_⟩
      have sxE:=sx3.trans (sx4.trans sx5)
      refine ⟨_,rfl,((p^m:Nat):Int),rfl,by lia,by lia,?_⟩
      let I3:Nat→St→Hp→Prop:=fun i σ H'=>An3 (Pu H' a g) (zaf a g H H') (Ex2 fun s7 s8=>σ=[some (.ref a),some (.ref l),some (Vn sz),some (Vn p),some (Vn m),some (Vn (p^m)),some (Vn st),s7,s8])
      refine yaB (n:=p^m) I3 ⟨hP5,sxE,none,none,rfl⟩ ?_ ?_
      · rintro j σ H6 hj ⟨hP6,sx6,s7,s8,rfl⟩
        refine ⟨_,rfl,_,rfl,_,rfl,_,rfl,_,_,rfl,rfl,?_⟩
        refine ⟨_,rfl,_,_,rfl,rfl,by show (0:Int)<((p^m:Nat):Int);lia,?_⟩
        refine ⟨szl 3,fun r hr=>?_⟩
        have nr:=hP6.lt hr
        have hr0:H r=none:=by
          cases e:H r with
          | none=>rfl
          | some o=>rw [sx6 r o nr.1 nr.2 e] at hr;cases hr
        have et:V.int ((((st:Nat):Int)+(0+(j:Int)))%((p^m:Nat):Int))=Vn ((st+j)%p^m):=by show V.int _=V.int _;congr 1;rw [Int.zero_add];rfl
        have hlt:(st+j)%p^m<p^m:=Nat.mod_lt _ hpos
        have hP7:Pu (upd H6 r (.tup [Vn p,Vn m,Vn ((st+j)%p^m)])) a g:=hP6.same (yab hr _)
        have sx7:zaf a g H (upd H6 r (.tup [Vn p,Vn m,Vn ((st+j)%p^m)])):=sx6.trans (Same.x (yab hr _))
        dsimp only [yat]
        rw [et]
        refine ⟨_,rfl,rfl,_,rfl,?_⟩
        refine ite2 (fun c=>?_) (fun c=>?_)
        · refine ite2 (fun _=>?_) (fun c=>absurd rfl c)
          have hm1:m=1:=by
            have:=of_decide_eq_true c
            injection this with this
            lia
          exact ⟨_,rfl,q r p m _ _ nr.1 nr.2 hr0 zab ⟨hmem,hlt,.inl hm1⟩ hP7 sx7⟩
        · refine ⟨_,rfl,r,p,m,(st+j)%p^m,rfl,SqT.of zab,hp,hm,hpm,hlt,fun b H8 s8' hb=>?_⟩
          refine ⟨_,rfl,?_⟩
          refine ite2 (fun c2=>?_) (fun _=>?_)
          · exact ⟨_,rfl,q r p m _ _ nr.1 nr.2 hr0 (s8' _ _ zab) ⟨hmem,hlt,.inr (hb c2)⟩ (hP7.same s8') (sx7.trans (Same.x s8'))⟩
          · exact ⟨hP7.same s8',sx7.trans (Same.x s8'),_,_,rfl⟩
      · rintro σ H6 ⟨hP6,sx6,s7,s8,rfl⟩
        refine ⟨_,rfl,szl 3,fun r hr=>?_⟩
        have nr:=hP6.lt hr
        have hr0:H r=none:=by
          cases e:H r with
          | none=>rfl
          | some o=>rw [sx6 r o nr.1 nr.2 e] at hr;cases hr
        exact q r p 1 0 _ nr.1 nr.2 hr0 zab ⟨zfy hmem,by simp;lia,.inl rfl⟩ (hP6.same (yab hr _)) (sx6.trans (Same.x (yab hr _)))
    · intro D' _ _ _ hD
      refine ⟨_,rfl,rfl,_,rfl,?_⟩
      refine ite2 (fun c=>?_) (fun c=>hD _ _ ⟨l,n,hn,hn2,M2,hP2,sx2,rfl⟩)
      refine ⟨szl 11,fun l2 hl2=>?_⟩
      refine ⟨l2,rfl,⟨_,SqL.of zab⟩,?_⟩
      refine yav (ybR (xs:=zbQ.map Vn)) (fun k acc H'=>Same (upd H2 l2 (.lst (zbQ.map Vn))) H'∧∃ts:List Addr,ts.length=k∧acc=ts.map V.ref∧∀t∈ts,t≠a∧t≠g∧ycQ H' t)
        ⟨Same.refl _,[],rfl,rfl,fun t ht=>nomatch ht⟩ (fun i acc H' _ h=>SqL.of (h.1 _ _ zab)) ?_ ?_ ?_
      · rintro k acc H' hk ⟨_,ts,e,rfl,_⟩
        have hk':k<11:=hk
        rw [List.length_map,e];exact yai (by lia)
      · rintro k acc x H3 H4 hk ⟨s3,ts,e,rfl,hts⟩ ⟨rfl,hx⟩
        obtain ⟨pr,hpr,rfl⟩:∃pr,pr∈zbQ∧x=Vn pr:=by
          rw [List.getElem?_map] at hx
          cases e:zbQ[k]? with
          | none=>rw [e] at hx;cases hx
          | some pr=>rw [e] at hx;cases hx;exact ⟨pr,List.mem_of_getElem? e,rfl⟩
        have hb:(pr,1)∈Dg.menu:=(by decide +kernel:∀x∈zbQ,(x,1)∈Dg.menu) pr hpr
        refine ⟨_,rfl,szl 2,fun t ht=>?_⟩
        have hP3:Pu H4 a g:=hP2.same ((yab hl2 _).trans s3)
        have nt:=hP3.lt ht
        refine ⟨s3.trans (yab ht _),ts++[t],by simp [e],by simp,fun t' ht'=>?_⟩
        rcases List.mem_append.mp ht' with h|h
        · exact ⟨(hts t' h).1,(hts t' h).2.1,(hts t' h).2.2.same fun o e=>(yab ht _) _ _ e⟩
        · cases List.mem_singleton.mp h
          exact ⟨nt.1,nt.2,pr,1,zab,hb⟩
      · rintro acc H3 ⟨s3,ts,e,rfl,hts⟩ D hD3
        have sA:Same H2 H3:=(yab hl2 _).trans s3
        have hP3:Pu H3 a g:=hP2.same sA
        have nD:=hP3.lt hD3
        refine hD _ _ ⟨D,11,by lia,by lia,⟨⟨ts,zab,e,fun t ht=>?_⟩,nD.1,nD.2⟩,hP3.same (yab hD3 _),sx2.trans (Same.x (sA.trans (yab hD3 _))),rfl⟩
        exact ⟨(hts t ht).1,(hts t ht).2.1,(hts t ht).2.2.same fun o e=>(yab hD3 _) _ _ e⟩
  · intro D' _ _ _ hD
    refine ⟨_,rfl,rfl,_,rfl,?_⟩
    refine ite2 (fun c=>?_) (fun c=>hD _ _ ⟨l,12,by lia,by lia,M1,hP1,sxA,rfl⟩)
    refine ycn [(2,5),(2,6),(7,2),(61,1)] _ H1 _ ?_ fun ts2 H2 s2 hts2 hpair2=>?_
    · intro x hx
      simp only [List.mem_cons,List.not_mem_nil,or_false] at hx
      rcases hx with rfl|rfl|rfl|rfl
      · exact ⟨2,5,rfl,by decide +kernel⟩
      · exact ⟨2,6,rfl,by decide +kernel⟩
      · exact ⟨7,2,rfl,by decide +kernel⟩
      · exact ⟨61,1,rfl,by decide +kernel⟩
    refine ⟨by rw [List.length_map,hts2];exact szl 4,fun l2 hl2=>?_⟩
    refine hD _ _ ⟨l2,4,by lia,by lia,?_,hP1.same (s2.trans (yab hl2 _)),sxA.trans (Same.x (s2.trans (yab hl2 _))),rfl⟩
    have n1:=(hP1.same s2).lt hl2
    refine ⟨⟨ts2,zab,hts2,fun t ht=>?_⟩,n1.1,n1.2⟩
    have n2:=hP1.lt (hpair2 t ht).1
    exact ⟨n2.1,n2.2,(hpair2 t ht).2.same fun o e=>(yab hl2 _) _ _ e⟩
end
end My
end
section
namespace My
open PySem L2 Dg
theorem ydB:bootBuiltins "dict"=some (.type "dict"):=by decide +kernel
def Pws (p m t b:Nat):List Nat:=(List.range (p^m-1)).map (pw p m t b)
def Logs (p m t b:Nat):List (Key×V):=(List.range (p^m-1)).map fun i=>(Sum.inl ((pw p m t b i:Nat):Int),Vn i)
noncomputable def tabD (fa pa la:Addr) (p m:Nat):List (Key×V):=[(.inr "field",.ref fa),(.inr "p",Vn p),(.inr "m",Vn m),(.inr "many",Vn (p^m)),(.inr "powers",.ref pa),(.inr "logs",.ref la)]
structure Tab (H:Hp) (tb fa pa la:Addr) (p m t b:Nat):Prop where
  d:H tb=some (.dK (tabD fa pa la p m))
  f:H fa=some (.tup [Vn p,Vn m,Vn t])
  w:H pa=some (.lst ((Pws p m t b).map Vn))
  l:H la=some (.dK (Logs p m t b))
  good:Good p m t
  prim:Prim p m t b
theorem Tab.same {H H':Hp} {tb fa pa la:Addr} {p m t b:Nat} (T:Tab H tb fa pa la p m t b) (s:Same H H'):Tab H' tb fa pa la p m t b :=
  ⟨s _ _ T.d,s _ _ T.f,s _ _ T.w,s _ _ T.l,T.good,T.prim⟩
theorem ybs {α:Type} {f:Nat→α} (n:Nat) (h:∀i j,i<n→j<n→f i=f j→i=j):((List.range n).map f).Nodup:=by
  rw [List.Nodup,List.pairwise_iff_getElem]
  intro i j hi hj hij
  simp only [List.length_map,List.length_range] at hi hj
  simp only [List.getElem_map,List.getElem_range]
  intro e
  have:=h i j hi hj e
  lia
theorem yew {f:Nat→Key} {g:Nat→V}:∀(l:List Nat) (n:Nat),l=List.range n→(∀i j,i<n→j<n→f i=f j→i=j)→∀i,i<n→valV (l.map fun i=>(f i,g i)) (f i)=some (g i):=by
  intro l n hl h i hi
  subst hl
  unfold valV
  rw [List.find?_map]
  have e:(List.range n).find? ((fun kv:Key×V=>decide (kv.1=f i)) ∘ fun i=>(f i,g i))=some i:=by
    rw [List.find?_range_eq_some]
    refine ⟨by simp,by simpa using hi,fun j hj=>?_⟩
    simp only [Function.comp,Bool.not_eq_true',decide_eq_false_iff_not]
    intro e
    have:=h j i (by lia) hi e
    lia
  rw [e];rfl
theorem yeC (fa pa la:Addr) (p m:Nat):ycg [] (tabD fa pa la p m)=tabD fa pa la p m:=rfl
theorem ydg (p m t b:Nat):(Pws p m t b).length=p^m-1:=by simp [Pws]
section
variable {P:Program} {w:World} {mg:Str→Option Value} {base:Heap} {f:Addr} {fd:FuncData}
inductive ycd (vs:List V) (H:Hp) (Q:VK) (E:XK):Prop
  | mk (fa:Addr) (p m t:Nat) (c1:vs=[.ref fa]) (c2:H fa=some (.tup [Vn p,Vn m,Vn t])) (c3:Good p m t) (c4:∀tb pa la b H',H tb=none→H pa=none→H la=none→Tab H' tb fa pa la p m t b→Same H H'→Q (.ref tb) H'):ycd vs H Q E
theorem yay:yaf ["_law_field_here","_law_many","_law_powers","_law_base","_law_thing","_law_logs"] ["_law_field_here"] (zac za2):=⟨rfl,rfl,rfl,by decide +kernel,rfl,by decide +kernel,by decide +kernel⟩
theorem yfR (B:Bl mg) (h__law_raised:Has P w K mg base 1 "_law_raised" ["_law_one","_law_many"] yag) (h__law_product:Has P w K mg base 2 "_law_product" ["_law_field_here","_law_one","_law_other"] (ybB K)) (F:Fun K "_law_table" "_law_table" za2 f fd):FnOk P w K mg base CX0 3 f fd ["_law_field_here"] ycd:=by
  refine F.ok yay (fun vs H Q E h=>?_) (fun cdv A outer s H vs Q E hr h=>?_)
  · obtain ⟨fa,p,m,t,rfl,_⟩:=h;rfl
  obtain ⟨fa,p,m,t,rfl,hf,G,q⟩:=h
  obtain ⟨b,Pb⟩:=G.prim
  have hp:=G.hp
  have hm:=G.hm
  have hpm:=G.hq
  have ht:=G.top
  have hp2:=p_le hp hm hpm
  have hm6:=m_le hp hpm
  have hQ2:=ya9 hp hm
  have hbp:=Pb.pos
  have hbl:=Pb.lt
  refine ⟨_,((1<|>yay.nd<|>(h__law_raised<$>((zao<<<(pv 0)<<<zaa)>=>(zao<<<(pv 0)<<<zaa)>=>yaa)))<=<(@yb3 _ _ 2 3 _ _ _ _ _ _ _ _ _ _ _ rfl yay.nd rfl rfl (by decide) rfl rfl ((@zap _ _ _ _ yaa)>=>zaa>=>yaa) rfl (by rfl))<=<(@zaG _ _ _ _ _ _ PassesOwn.never (zdm∪(yah>>>("len",PySem.boot_len,((pv 2)>=>yaa)))∪(ya1|||(pv 1)|||zaa)) ((@zft _ _ 3 2 4 _ _ _ _ _ _ _ _ _ _ _ _ _ _ rfl yay.nd rfl rfl rfl (by decide) rfl rfl rfl ((yal|||(pv 3)|||zaa)>=>(@zap _ _ _ _ (zaa>=>yaa))>=>(yal|||(pv 3)|||zaa)>=>yaa) rfl (by rfl))<=<(~~~(@zaG _ _ _ _ _ _ PassesOwn.never (zbW∪(pv 4)∪zaa) ((@ybp _ _ _ _ (@zdw _ _ _ _ _ _ _ _ _ _ _ _ PySem.F.plainAttrs_list PySem.F.slot_list_append PySem.F.type_list_append yaV (pv 2) ((pv 4)>=>yaa) (by rfl) (by rfl) (by rfl) (by rfl) (by rfl)) (by rfl))<=<(~~~(4<|>yay.nd<|>(h__law_product<$>((pv 0)>=>(pv 4)>=>(pv 3)>=>yaa)))))))))<=<(5<|>yay.nd<|>((zcp rfl)<*("dict",ydB,((["_law_at","_law_thing"]⊆([],[],["_law_field_here","_law_many","_law_powers","_law_base","_law_thing","_law_logs"],za2,(@zdk _ _ _ _ _ _ _ _ rfl (B "enumerate" (by decide)) ((pv 2)>=>yaa) (by rfl)),(@ygw _ _ _ _ 2 _ K rfl rfl ((0⊇["_law_at","_law_thing"])∩((1⊇["_law_at","_law_thing"])∩yaA)) (by rfl) (by rfl)),zaP,(@yax _ _ _ _ _ ((pv 1)>=>(pv 0)>=>yaa))))>=>yaa))))<=<(~~~((@yeN _ _ _ _ _ (@ybe _ _ _ _ _ _ _ _ _ zaF (pv 0) (@ybe _ _ _ _ _ _ _ _ _ zaF (zao<<<(pv 0)<<<zaa) (@ybe _ _ _ _ _ _ _ _ _ zaF (zao<<<(pv 0)<<<zaa) (@ybe _ _ _ _ _ _ _ _ _ zaF (pv 1) (@ybe _ _ _ _ _ _ _ _ _ zaF (pv 2) (@ybe _ _ _ _ _ _ _ _ _ zaF (pv 5) ye5)))))) rfl rfl (fun h=>nomatch h) (by decide))⁻¹))),?_⟩
  try dsimp only [cxOf]
  refine ⟨_,rfl,fa,_,_,_,rfl,rfl,SqT.of hf,rfl,?_⟩
  refine ⟨_,rfl,fa,_,_,_,rfl,rfl,SqT.of hf,rfl,?_⟩
  refine ⟨p,m,rfl,hp2,by lia,?_⟩
  refine ⟨szl 0,fun l0 hl0=>⟨_,_,rfl,?_⟩⟩
  dsimp only []
  let I1:St→Hp→Prop:=fun σ H'=>Same H H'∧Ex2 fun pa s4=>An3 (H pa=none) (H' pa=some (.lst ((Pws p m t b).map Vn))) (σ=[some (.ref fa),some (Vn (p^m)),some (.ref pa),some (Vn b),s4,none])
  refine yaR I1 ?_ ?_
  · rintro σ H1 ⟨s1,pa,s4,npa,epa,rfl⟩
    refine ⟨_,rfl,false,pa,rfl,⟨_,SqL.of epa⟩,?_⟩
    refine yav (ybK (b:=false) (xs:=(Pws p m t b).map Vn)) (fun k acc H'=>Same H1 H'∧∃ts:List Addr,ts.length=k∧acc=ts.map V.ref∧∀j a,ts[j]?=some a→H' a=some (.tup [Vn (pw p m t b j),Vn j])) ⟨Same.refl _,[],rfl,rfl,fun j a e=>by simp at e⟩ (fun i acc H' _ h=>SqL.of (h.1 _ _ epa)) ?_ ?_ ?_
    · rintro k acc H' hk ⟨_,ts,e,rfl,_⟩
      rw [List.length_map,ydg] at hk
      rw [List.length_map,e];exact yai (by lia)
    · rintro k acc x H2 H3 hk ⟨s2,ts,e,rfl,hts⟩ ⟨T,u,rfl,eu,hT,rfl⟩
      rw [List.length_map,ydg] at hk
      have eu2:u=Vn (pw p m t b k):=by
        unfold Pws at eu
        rw [List.getElem?_map,List.getElem?_map,List.getElem?_range hk] at eu
        exact (Option.some.inj eu).symm
      subst eu2
      refine ⟨T,_,rfl,SqT.of zab,rfl,_,_,rfl,_,_,rfl,rfl,?_⟩
      refine ⟨_,rfl,_,rfl,szl 2,fun a ha=>?_⟩
      have sA:=(yab hT (.tup [.int (k:Int),Vn (pw p m t b k)])).trans (yab ha (.tup [Vn (pw p m t b k),Vn k]))
      refine ⟨s2.trans sA,ts++[a],by simp [e],by simp,fun j a' ej=>?_⟩
      rw [List.getElem?_append] at ej
      split at ej
      · exact sA _ _ (hts j a' ej)
      · rename_i h
        have hj:j=k:=by
          have:=(List.getElem?_eq_some_iff.mp ej).1
          simp at this;lia
        subst hj
        simp [e] at ej
        subst ej
        exact zab
    · rintro acc H2 ⟨s2,ts,e,rfl,hts⟩ D hD
      rw [List.length_map,ydg] at e
      have sB:=yab hD (.lst (ts.map V.ref))
      refine ⟨D,ts,Logs p m t b,rfl,zab,by rw [e];simp [Logs],by simp only [Logs,List.length_map,List.length_range];exact szl _ (by lia),fun j a kv ej ek=>?_,?_,fun la hla=>?_⟩
      · have hj:j<p^m-1:=by have:=(List.getElem?_eq_some_iff.mp ej).1;lia
        unfold Logs at ek
        rw [List.getElem?_map,List.getElem?_range hj] at ek
        cases ek
        exact sB _ _ (hts j a ej)
      · unfold Logs
        rw [List.map_map]
        refine ybs _ fun i j hi hj e=>G.inj Pb i j hi hj ?_
        have e:Sum.inl ((pw p m t b i:Nat):Int)=(Sum.inl ((pw p m t b j:Nat):Int):Key):=e
        injection e with e
        lia
      · intro tb htb
        have s3:Same H1 (upd (upd H2 D (.lst (ts.map V.ref))) la (.dK (Logs p m t b))):=(s2.trans sB).trans (yab hla _)
        have s4:=s3.trans (yab htb (.dK []))
        have s5:=s1.trans s4
        refine ⟨_,rfl,_,rfl,fa,_,_,_,rfl,rfl,SqT.of (s5 _ _ hf),rfl,?_⟩
        refine ⟨_,rfl,fa,_,_,_,rfl,rfl,SqT.of (s5 _ _ hf),rfl,?_⟩
        refine ⟨_,rfl,_,rfl,_,rfl,zab,tabD fa pa la p m,rfl,by show 6≤15;decide,?_⟩
        rw [zdY,yeC]
        have s6:=s3.trans (yab htb (.dK (tabD fa pa la p m)))
        have s7:=s1.trans s6
        have old:∀a,H1 a=none→H a=none:=fun a ha=>by
          cases e:H a with
          | none=>rfl
          | some o=>rw [s1 _ _ e] at ha;cases ha
        have old2:∀a,upd H2 D (.lst (ts.map V.ref)) a=none→H a=none:=fun a ha=>by
          cases e:H a with
          | none=>rfl
          | some o=>rw [(s2.trans sB) _ _ (s1 _ _ e)] at ha;cases ha
        refine q tb pa la b _ ?_ npa (old2 la hla) ⟨zab,s7 _ _ hf,s6 _ _ epa,(yab htb _) _ _ zab,G,Pb⟩ s7
        cases e:H tb with
        | none=>rfl
        | some o=>rw [s3 _ _ (s1 _ _ e)] at htb;cases htb
  · intro D' _ _ _ hD
    let I2:St→Hp→Prop:=fun σ H'=>Same H H'∧Ex3 fun base pa s4=>An3 (H pa=none) (σ=[some (.ref fa),some (Vn (p^m)),some (.ref pa),some (Vn base),s4,none]) (∃L:List Nat,H' pa=some (.lst (L.map Vn))∧((base=b∧L=Pws p m t b)∨(base<b∧L.length<p^m-1)))
    refine zaI I2
      (fun σ _=>b-mI σ 3) ⟨yab hl0 _,0,l0,none,hl0,rfl,[],zab,.inr ⟨hbp,by show 0<p^m-1;lia⟩⟩ ?_
    rintro σ H1 ⟨s1,bs,pa,s4,npa,rfl,L,ePa,hL⟩
    refine ⟨_,rfl,pa,_,rfl,.inl (SqL.of ePa),?_⟩
    refine ⟨_,rfl,_,_,rfl,rfl,_,_,rfl,rfl,_,rfl,?_⟩
    rw [List.length_map]
    refine ite2 (fun c=>?_) (fun c=>?_)
    · have c':L.length<p^m-1:=by have:=of_decide_eq_true c;lia
      have hlt:bs<b:=by
        rcases hL with ⟨rfl,rfl⟩|h
        · rw [ydg] at c';lia
        · exact h.1
      refine ⟨fun σ' H'=>Same H H'∧Ex2 fun pa s4=>H pa=none∧σ'=[some (.ref fa),some (Vn (p^m)),some (.ref pa),some (Vn (bs+1)),s4,none]∧∃L:List Nat,H' pa=some (.lst (L.map Vn))∧((bs+1=b∧L=Pws p m t b)∨(bs+1<b∧L.length<p^m-1)),?_,?_⟩
      · rintro σ' H' ⟨s2,pa2,s5,n2,rfl,L2,e2,h2⟩
        refine ⟨_,?_,rfl,s2,bs+1,pa2,s5,n2,rfl,L2,e2,h2⟩
        show b-(bs+1)<b-bs;lia
      refine ⟨_,rfl,_,_,rfl,rfl,?_⟩
      refine ⟨szl 1,fun l1 hl1=>?_⟩
      refine ⟨_,rfl,_,_,rfl,rfl,_,_,_,rfl,?_⟩
      have n1:H l1=none:=by
        cases e:H l1 with
        | none=>rfl
        | some o=>rw [s1 _ _ e] at hl1;cases hl1
      have hb1:bs+1<p^m:=by lia
      have nfa:fa≠l1:=yac hf n1
      let I3:St→Hp→Prop:=fun σ H'=>zaf l1 l1 H1 H'∧∃k,An5 (1≤k) (k≤p^m-1) (σ=[some (.ref fa),some (Vn (p^m)),some (.ref l1),some (Vn (bs+1)),some (Vn (pw p m t (bs+1) k)),none]) (H' l1=some (.lst (((List.range k).map (pw p m t (bs+1))).map Vn))) (∀i,0<i→i<k→pw p m t (bs+1) i≠1)
      refine zaI I3
        (fun _ H'=>p^m-yb9 H' l1) ⟨Same.x (yab hl1 _),1,by lia,by lia,?_,zab,fun i h1 h2=>by lia⟩ ?_
      · rw [zdt hp hm hb1];rfl
      rintro σ H2 ⟨sx2,k,hk1,hk2,rfl,e2,hne⟩
      have hlen:yb9 H2 l1=k:=by rw [za4 e2];simp
      refine ⟨_,rfl,rfl,_,rfl,?_⟩
      refine ite2 (fun c=>?_) (fun c=>?_)
      · have hk:pw p m t (bs+1) k≠1:=by
          intro e
          rw [e] at c
          exact absurd c (by decide)
        have hk3:k<p^m-1:=by
          rcases Nat.lt_or_ge k (p^m-1) with h|h
          · exact h
          · have:k=p^m-1:=by lia
            rw [this] at hk
            exact absurd (G.fermat (by lia) hb1) hk
        have hf2:H2 fa=some (.tup [Vn p,Vn m,Vn t]):=sx2 _ _ nfa nfa (s1 _ _ hf)
        have e3:((List.range k).map (pw p m t (bs+1))).map Vn++[Vn (pw p m t (bs+1) k)]=((List.range (k+1)).map (pw p m t (bs+1))).map Vn:=by
          rw [List.range_succ,List.map_append,List.map_append];rfl
        refine ⟨fun σ' H'=>zaf l1 l1 H1 H'∧σ'=[some (.ref fa),some (Vn (p^m)),some (.ref l1),some (Vn (bs+1)),some (Vn (pw p m t (bs+1) (k+1))),none]∧H' l1=some (.lst (((List.range (k+1)).map (pw p m t (bs+1))).map Vn)),?_,?_⟩
        · rintro σ' H' ⟨a1,rfl,a3⟩
          have hl2:yb9 H' l1=k+1:=by rw [za4 a3];simp
          refine ⟨_,?_,rfl,a1,k+1,by lia,by lia,rfl,a3,fun i h1 h2=>?_⟩
          · show p^m-yb9 H' l1<p^m-yb9 H2 l1;rw [hl2,hlen];lia
          · rcases Nat.lt_or_ge i k with h|h
            · exact hne i h1 h
            · rw [show i=k by lia];exact hk
        refine ⟨_,rfl,.inl ⟨rfl,_,SqL.of e2⟩,_,rfl,?_⟩
        refine ⟨l1,_,_,rfl,rfl,e2,by simp only [List.length_map,List.length_range];exact yai (by lia),?_⟩
        rw [e3]
        have s3:zaf l1 l1 H1 (upd H2 l1 (.lst (((List.range (k+1)).map (pw p m t (bs+1))).map Vn))):=zfu sx2
        refine ⟨_,rfl,_,rfl,_,rfl,fa,p,m,t,pw p m t (bs+1) k,bs+1,rfl,SqT.of (by rw [yad nfa];exact hf2),hp,hm,hpm,ht,zcv hp hm _ _,hb1,fun r H4 s4' br hr=>?_⟩
        have e:=zdp hp hm br hr
        subst e
        exact ⟨s3.trans (Same.x s4'),rfl,s4' _ _ zab⟩
      · have hk:pw p m t (bs+1) k=1:=by
          rcases Nat.decEq (pw p m t (bs+1) k) 1 with h|h
          · exfalso
            refine c ?_
            rw [decide_eq_false];rfl
            intro e;injection e with e;exact h (by lia)
          · exact h
        refine ⟨(s1.trans (yc3 (sx2) hl1)),l1,_,n1,rfl,_,e2,?_⟩
        rcases Nat.lt_or_ge (bs+1) b with h|h
        · refine .inr ⟨h,?_⟩
          obtain ⟨i,i0,i1,ie⟩:=Pb.low (bs+1) (by lia) h
          simp only [List.length_map,List.length_range]
          rcases Nat.lt_or_ge i k with h3|h3
          · exact absurd ie (hne i i0 h3)
          · lia
        · have hbb:bs+1=b:=by lia
          refine .inl ⟨hbb,?_⟩
          rw [hbb] at hk ⊢
          have:k=p^m-1:=by
            rcases Nat.lt_or_ge k (p^m-1) with h3|h3
            · exact absurd hk (Pb.min k (by lia) h3)
            · lia
          rw [this];rfl
    · have c':¬ L.length<p^m-1:=by
        intro h;exact c (decide_eq_true (by lia))
      rcases hL with ⟨rfl,rfl⟩|h
      · exact hD _ _ ⟨s1,pa,s4,npa,ePa,rfl⟩
      · exact absurd h.2 c'
theorem zhr {fa pa la:Addr} {p m:Nat}:valV (tabD fa pa la p m) (.inr "p")=some (Vn p):=rfl
theorem ygE {fa pa la:Addr} {p m:Nat}:valV (tabD fa pa la p m) (.inr "m")=some (Vn m):=rfl
theorem zcg {fa pa la:Addr} {p m:Nat}:valV (tabD fa pa la p m) (.inr "many")=some (Vn (p^m)):=rfl
theorem yeB {fa pa la:Addr} {p m:Nat}:valV (tabD fa pa la p m) (.inr "powers")=some (.ref pa):=rfl
theorem yee {fa pa la:Addr} {p m:Nat}:valV (tabD fa pa la p m) (.inr "logs")=some (.ref la):=rfl
theorem yeI {fa pa la:Addr} {p m:Nat}:valV (tabD fa pa la p m) (.inr "field")=some (.ref fa):=rfl
theorem Tab.get {H:Hp} {tb fa pa la:Addr} {p m t b:Nat} (T:Tab H tb fa pa la p m t b) {x:Str} {v:V} (h:valV (tabD fa pa la p m) (.inr x)=some v):DGet H tb (.str x) (some v):=by
  rw [←h];exact DGet.k (k:=.inr x) T.d
theorem Tab.log {H:Hp} {tb fa pa la:Addr} {p m t b:Nat} (T:Tab H tb fa pa la p m t b) {i:Nat} (h:i<p^m-1):DGet H la (Vn (pw p m t b i)) (some (Vn i)):=by
  have e:valV (Logs p m t b) (.inl ((pw p m t b i:Nat):Int))=some (Vn i):=by
    unfold Logs
    refine yew _ _ rfl (fun i j hi hj e=>T.good.inj T.prim i j hi hj ?_) i h
    injection e with e
    lia
  rw [←e];exact DGet.k (k:=.inl ((pw p m t b i:Nat):Int)) T.l
theorem yc4 (x:Nat):decide (Vn x=V.int 0)=decide (x=0):=decide_eq_decide.mpr ⟨fun e=>by injection e with e;lia,fun e=>by rw [e];rfl⟩
inductive zbL (vs:List V) (H:Hp) (Q:VK) (E:XK):Prop
  | mk (tb fa pa la:Addr) (p m t b x y:Nat) (c1:vs=[.ref tb,Vn x,Vn y]) (c2:Tab H tb fa pa la p m t b) (c3:x<p^m) (c4:y<p^m) (c5:Q (Vn (mul p m t x y)) H):zbL vs H Q E
theorem zbM:yaf ["_law_table_here","_law_one","_law_other","_law_at"] ["_law_table_here","_law_one","_law_other"] (zac ybr):=⟨rfl,rfl,rfl,by decide +kernel,rfl,by decide +kernel,by decide +kernel⟩
theorem yeX (B:Bl mg) (F:Fun K "_law_times" "_law_times" ybr f fd):FnOk P w K mg base CX0 1 f fd ["_law_table_here","_law_one","_law_other"] zbL:=by
  refine F.ok zbM (fun vs H Q E h=>?_) (fun cdv A outer s H vs Q E hr h=>?_)
  · obtain ⟨tb,fa,pa,la,p,m,t,b,x,y,rfl,_⟩:=h;rfl
  obtain ⟨tb,fa,pa,la,p,m,t,b,x,y,rfl,T,hx,hy,q⟩:=h
  have hp:=T.good.hp
  have hm:=T.good.hm
  refine ⟨_,(((@PW.pt _ _ _ (@yaQ _ _ _ _ _ _ _ (zaZ∪(pv 1)∪zaa) (@yaD _ _ _ _ (zaZ∪(pv 2)∪zaa))))*>((~~~(zaa⁻¹)),yae))<=<(3<|>zbM.nd<|>(yal|||(((pv 0)⊃zaF)⊃(pv 1))|||(((pv 0)⊃zaF)⊃(pv 2))))<=<(~~~((zai<<<((pv 0)⊃zaF)<<<(yan|||(pv 3)|||(ya1|||((pv 0)⊃zaF)|||zaa)))⁻¹))),?_⟩
  try dsimp only [cxOf]
  refine yfZ (b1:=decide (x=0)) (b2:=decide (y=0)) (fun Q q=>⟨_,rfl,rfl,_,rfl,?_⟩) (fun Q q=>⟨_,rfl,rfl,_,rfl,?_⟩) ?_
  · rw [yc4];exact q
  · rw [yc4];exact q
  refine ite2 (fun c=>?_) (fun c=>?_)
  · have e:mul p m t x y=0:=by
      simp only [Bool.or_eq_true,decide_eq_true_eq] at c
      rcases c with rfl|rfl
      · exact zero_mul hp hm _
      · exact mul_zero hp hm _
    rw [e] at q
    exact q
  · simp only [Bool.or_eq_true,decide_eq_true_eq,not_or] at c
    obtain ⟨i,hi,ei⟩:=T.prim.all x (by lia) hx
    obtain ⟨j,hj,ej⟩:=T.prim.all y (by lia) hy
    have hQ2:=ya9 hp hm
    have hQ:=T.good.hq
    have gi:=T.log hi
    have gj:=T.log hj
    rw [ei] at gi
    rw [ej] at gj
    refine ⟨_,rfl,tb,_,rfl,T.get yee,_,rfl,la,_,rfl,gi,?_⟩
    refine ⟨_,rfl,tb,_,rfl,T.get yee,_,rfl,la,_,rfl,gj,_,_,rfl,rfl,?_⟩
    refine ⟨_,rfl,tb,_,rfl,T.get yeB,?_⟩
    refine ⟨_,rfl,_,rfl,tb,_,rfl,T.get zcg,_,_,rfl,rfl,_,_,rfl,rfl,by show (0:Int)<((p^m:Nat):Int)-1;lia,?_⟩
    have ek:((i:Int)+(j:Int))%(((p^m:Nat):Int)-1)=(((i+j)%(p^m-1):Nat):Int):=by
      rw [Int.natCast_emod,Int.natCast_add,Int.natCast_sub (by lia)];rfl
    have hk:(i+j)%(p^m-1)<p^m-1:=Nat.mod_lt _ (by lia)
    refine ⟨pa,_,_,Vn (pw p m t b ((i+j)%(p^m-1))),rfl,rfl,SqL.of T.w,?_,?_⟩
    · show atI _ (((i:Int)+(j:Int))%(((p^m:Nat):Int)-1))=_
      rw [ek]
      exact zaB (by unfold Pws;rw [List.getElem?_map,List.getElem?_map,List.getElem?_range hk];rfl)
    · have e:pw p m t b ((i+j)%(p^m-1))=mul p m t x y:=by
        rw [T.good.pw_mod T.prim.pos T.prim.lt,zb8 hp hm,ei,ej]
      rw [e]
      exact q
end
end My
end
section
namespace My
open PySem L2 Dg
theorem ybm {ws:List Nat} {i:Nat} (h:i<ws.length):(ws.map Vn)[i]?=some (Vn (ws.getD i 0)):=by
  rw [List.getElem?_map,List.getElem?_eq_getElem h];simp [List.getD,h]
theorem ygi {xs:List Nat} {n i:Nat} (h:∀x∈xs,x<n) (hi:i<xs.length):xs.getD i 0<n:=by
  have e:xs.getD i 0=xs[i]:=by simp [List.getD,hi]
  rw [e];exact h _ (List.getElem_mem hi)
theorem yfY (s:Same H H') (h:H l=none):Same H (upd H' l o):=fun b u e=>by rw [yad (yac e h)];exact s _ _ e
theorem mapI (ns:List Nat):(ns.map fun n:Nat=>(n:Int)).map V.int=ns.map Vn:=by rw [List.map_map];rfl
structure yfz (pu g tb fa pa la:Addr):Prop where
  a1:tb≠pu
  a2:tb≠g
  b1:fa≠pu
  b2:fa≠g
  c1:pa≠pu
  c2:pa≠g
  d1:la≠pu
  d2:la≠g
theorem Tab.x {H H':Hp} {pu g tb fa pa la:Addr} {p m t b:Nat} (T:Tab H tb fa pa la p m t b) (a:yfz pu g tb fa pa la) (s:zaf pu g H H'):Tab H' tb fa pa la p m t b :=
  ⟨s _ _ a.a1 a.a2 T.d,s _ _ a.b1 a.b2 T.f,s _ _ a.c1 a.c2 T.w,s _ _ a.d1 a.d2 T.l,T.good,T.prim⟩
end My
end
section
namespace My
open PySem L2 Dg
end My
end
section
namespace My
open PySem L2 Dg
end My
end
section
namespace My
open PySem L2 Dg
end My
end
section
namespace My
open PySem L2 Dg
structure Ord (p m t x n:Nat):Prop where
  pos:1≤n
  one:pw p m t x n=1
  min:∀i,0<i→i<n→pw p m t x i≠1
theorem Ord.le {p m t x n k:Nat} (o:Ord p m t x n) (h0:0<k) (h:pw p m t x k=1):n≤k:=by
  rcases Nat.lt_or_ge k n with h1|h1
  · exact absurd h (o.min k h0 h1)
  · exact h1
theorem Ord.uniq {p m t x n k:Nat} (o:Ord p m t x n) (o':Ord p m t x k):n=k:=Nat.le_antisymm (o.le o'.pos o'.one) (o'.le o.pos o.one)
theorem yc5 (x:Nat):decide (Vn x=V.int 1)=decide (x=1):=decide_eq_decide.mpr ⟨fun e=>by injection e with e;lia,fun e=>by rw [e];rfl⟩
section
variable {P:Program} {w:World} {mg:Str→Option Value} {base:Heap} {f:Addr} {fd:FuncData}
inductive ydf (K:PySem.W.Frag) (vs:List V) (H:Hp) (Q:VK) (E:XK):Prop
  | mk (fa:Addr) (p m t x:Nat) (c1:vs=[.ref fa,Vn x]) (c2:Fld K H fa p m t) (c3:Good p m t) (c4:0<x) (c5:x<p^m) (c6:∀n,Ord p m t x n→n≤p^m-1→Q (Vn n) H):ydf K vs H Q E
theorem yaX:yaf ["field","one","many","product"] ["field","one"] (zac ybT):=⟨rfl,rfl,rfl,by decide +kernel,rfl,by decide +kernel,by decide +kernel⟩
theorem yfQ (B:Bl mg) (h_times:Has P w K mg base 3 "times" ["field","one","other"] (zcc K)) (F:Fun K "round_of" "round_of" ybT f fd):FnOk P w K mg base CX0 4 f fd ["field","one"] (ydf K):=by
  refine F.ok yaX (fun vs H Q E h=>?_) (fun cdv A outer s H vs Q E hr h=>?_)
  · obtain ⟨fa,p,m,t,x,rfl,_⟩:=h;rfl
  obtain ⟨fa,p,m,t,x,rfl,hF,G,h0,hx,q⟩:=h
  have hp:=G.hp
  have hm:=G.hm
  have hQ:=G.hq
  have hQ2:=ya9 hp hm
  refine ⟨_,((2<|>yaX.nd<|>zaa)<=<(3<|>yaX.nd<|>(pv 1))<=<(@zaG _ _ _ _ _ _ PassesOwn.never (zbW∪(pv 3)∪zaa) ((3<|>yaX.nd<|>(h_times<$>((pv 0)>=>(pv 3)>=>(pv 1)>=>yaa)))<=<(~~~(@zbp _ _ 2 _ _ _ _ _ _ yaX.nd rfl (Or.inl rfl) zaa zdU (by trivial)))))<=<(~~~((pv 2)⁻¹))),?_⟩
  try dsimp only [cxOf]
  refine ⟨_,rfl,?_⟩
  let I1:St→Hp→Prop:=fun σ H'=>H'=H∧∃k,An4 (1≤k) (k≤p^m-1) (σ=[some (.ref fa),some (Vn x),some (Vn k),some (Vn (pw p m t x k))]) (∀i,0<i→i<k→pw p m t x i≠1)
  refine zaI I1 (fun σ _=>p^m-mI σ 2) ⟨rfl,1,by lia,by lia,by rw [zdt hp hm hx];rfl,fun i h1 h2=>by lia⟩ ?_
  rintro σ H' ⟨rfl,k,hk1,hk2,rfl,hne⟩
  refine ⟨_,rfl,rfl,_,rfl,?_⟩
  rw [yc5]
  refine ite2 (fun c=>?_) (fun c=>?_)
  · have hk:pw p m t x k≠1:=by
      intro e
      rw [decide_eq_true e] at c
      exact absurd c (by decide)
    have hk3:k<p^m-1:=by
      rcases Nat.lt_or_ge k (p^m-1) with h|h
      · exact h
      · have:k=p^m-1:=by lia
        rw [this] at hk
        exact absurd (G.fermat h0 hx) hk
    refine ⟨fun σ' H''=>H''=H'∧σ'=[some (.ref fa),some (Vn x),some (Vn (k+1)),some (Vn (pw p m t x (k+1)))],?_,?_⟩
    · rintro σ' H'' ⟨rfl,rfl⟩
      refine ⟨_,?_,rfl,rfl,k+1,by lia,by lia,rfl,fun i h1 h2=>?_⟩
      · show p^m-(k+1)<p^m-k;lia
      · rcases Nat.lt_or_ge i k with h|h
        · exact hne i h1 h
        · rw [show i=k by lia];exact hk
    · refine ⟨_,rfl,_,rfl,_,rfl,fa,p,m,t,pw p m t x k,x,rfl,hF,hp,hm,hQ,G.top,zcv hp hm _ _,hx,fun r br h1=>?_⟩
      cases zdp hp hm br h1
      exact ⟨_,rfl,_,_,rfl,rfl,rfl,rfl⟩
  · have hk:pw p m t x k=1:=by
      rcases Nat.decEq (pw p m t x k) 1 with h|h
      · exact absurd (by rw [decide_eq_false h];rfl) c
      · exact h
    exact ⟨_,rfl,q k ⟨hk1,hk,hne⟩ hk2⟩
inductive zcC (K:PySem.W.Frag) (vs:List V) (H:Hp) (Q:VK) (E:XK):Prop
  | mk (wa fa:Addr) (p m t few x:Nat) (mv:V) (c1:vs=[.ref wa]) (c2:SqT K H wa [.ref fa,Vn few,Vn x,mv]) (c3:Fld K H fa p m t) (c4:Good p m t) (c5:0<x) (c6:x<p^m) (c7:∀n,Ord p m t x n→n≤p^m-1→Q (Vn n) H):zcC K vs H Q E
theorem yfr:yaf ["wheel"] ["wheel"] (zac yde):=⟨rfl,rfl,rfl,by decide +kernel,rfl,by decide +kernel,by decide +kernel⟩
theorem yfe (B:Bl mg) (h_round_of:Has P w K mg base 4 "round_of" ["field","one"] (ydf K)) (F:Fun K "length" "length" yde f fd):FnOk P w K mg base CX0 5 f fd ["wheel"] (zcC K):=by
  refine F.ok yfr (fun vs H Q E h=>?_) (fun cdv A outer s H vs Q E hr h=>?_)
  · obtain ⟨wa,fa,p,m,t,few,x,mv,rfl,_⟩:=h;rfl
  obtain ⟨wa,fa,p,m,t,few,x,mv,rfl,hw,hF,G,h0,hx,q⟩:=h
  refine ⟨_,(~~~((h_round_of<$>((zao<<<(pv 0)<<<zaa)>=>(zao<<<(pv 0)<<<zaa)>=>yaa))⁻¹)),?_⟩
  try dsimp only [cxOf]
  refine ⟨_,rfl,wa,_,_,_,rfl,rfl,hw,rfl,?_⟩
  refine ⟨_,rfl,wa,_,_,_,rfl,rfl,hw,rfl,?_⟩
  exact ⟨fa,p,m,t,x,rfl,hF,G,h0,hx,q⟩
inductive zcq (vs:List V) (H:Hp) (Q:VK) (E:XK):Prop
  | mk (tb fa pa la:Addr) (p m t b x:Nat) (c1:vs=[.ref tb,Vn x]) (c2:Tab H tb fa pa la p m t b) (c3:0<x) (c4:x<p^m) (c5:∀n,Ord p m t x n→n≤p^m-1→Q (Vn n) H):zcq vs H Q E
theorem ybh:yaf ["_law_table_here","_law_one","_law_many","_law_thing"] ["_law_table_here","_law_one"] (zac zbq):=⟨rfl,rfl,rfl,by decide +kernel,rfl,by decide +kernel,by decide +kernel⟩
theorem yfc (B:Bl mg) (h__law_times:Has P w K mg base 1 "_law_times" ["_law_table_here","_law_one","_law_other"] zbL) (F:Fun K "_law_round" "_law_round" zbq f fd):FnOk P w K mg base CX0 2 f fd ["_law_table_here","_law_one"] zcq:=by
  refine F.ok ybh (fun vs H Q E h=>?_) (fun cdv A outer s H vs Q E hr h=>?_)
  · obtain ⟨tb,fa,pa,la,p,m,t,b,x,rfl,_⟩:=h;rfl
  obtain ⟨tb,fa,pa,la,p,m,t,b,x,rfl,T,h0,hx,q⟩:=h
  have G:=T.good
  have hp:=G.hp
  have hm:=G.hm
  have hQ:=G.hq
  have hQ2:=ya9 hp hm
  refine ⟨_,((@yb3 _ _ 2 3 _ _ _ _ _ _ _ _ _ _ _ rfl ybh.nd rfl rfl (by decide) rfl rfl (zaa>=>(pv 1)>=>yaa) rfl (by rfl))<=<(@zaG _ _ _ _ _ _ PassesOwn.never (zbW∪(pv 3)∪zaa) (~~~(@yb3 _ _ 2 3 _ _ _ _ _ _ _ _ _ _ _ rfl ybh.nd rfl rfl (by decide) rfl rfl ((yal|||(pv 2)|||zaa)>=>(h__law_times<$>((pv 0)>=>(pv 3)>=>(pv 1)>=>yaa))>=>yaa) rfl (by rfl))))<=<(~~~((pv 2)⁻¹))),?_⟩
  try dsimp only [cxOf]
  refine ⟨_,rfl,_,_,rfl,?_⟩
  let I2:St→Hp→Prop:=fun σ H'=>H'=H∧∃k,An4 (1≤k) (k≤p^m-1) (σ=[some (.ref tb),some (Vn x),some (Vn k),some (Vn (pw p m t x k))]) (∀i,0<i→i<k→pw p m t x i≠1)
  refine zaI I2 (fun σ _=>p^m-mI σ 2) ⟨rfl,1,by lia,by lia,by rw [zdt hp hm hx];rfl,fun i h1 h2=>by lia⟩ ?_
  rintro σ H' ⟨rfl,k,hk1,hk2,rfl,hne⟩
  refine ⟨_,rfl,rfl,_,rfl,?_⟩
  rw [yc5]
  refine ite2 (fun c=>?_) (fun c=>?_)
  · have hk:pw p m t x k≠1:=by
      intro e
      rw [decide_eq_true e] at c
      exact absurd c (by decide)
    have hk3:k<p^m-1:=by
      rcases Nat.lt_or_ge k (p^m-1) with h|h
      · exact h
      · have:k=p^m-1:=by lia
        rw [this] at hk
        exact absurd (G.fermat h0 hx) hk
    refine ⟨fun σ' H''=>H''=H'∧σ'=[some (.ref tb),some (Vn x),some (Vn (k+1)),some (Vn (pw p m t x (k+1)))],?_,?_⟩
    · rintro σ' H'' ⟨rfl,rfl⟩
      refine ⟨_,?_,rfl,rfl,k+1,by lia,by lia,rfl,fun i h1 h2=>?_⟩
      · show p^m-(k+1)<p^m-k;lia
      · rcases Nat.lt_or_ge i k with h|h
        · exact hne i h1 h
        · rw [show i=k by lia];exact hk
    · refine ⟨_,rfl,_,_,rfl,rfl,_,rfl,_,rfl,_,rfl,tb,fa,pa,la,p,m,t,b,pw p m t x k,x,rfl,T,zcv hp hm _ _,hx,?_⟩
      exact ⟨_,_,rfl,rfl,rfl⟩
  · have hk:pw p m t x k=1:=by
      rcases Nat.decEq (pw p m t x k) 1 with h|h
      · exact absurd (by rw [decide_eq_false h];rfl) c
      · exact h
    exact ⟨_,rfl,q k ⟨hk1,hk,hne⟩ hk2⟩
def Pwn (p m t x n:Nat):List Nat:=(List.range n).map (pw p m t x)
theorem yck (p m t x n:Nat):(Pwn p m t x n).length=n:=by simp [Pwn]
theorem ygb {p m t x n i:Nat} (h:i<n):(Pwn p m t x n).getD i 0=pw p m t x i:=by
  unfold Pwn
  rw [List.getD_eq_getElem?_getD,List.getElem?_map,List.getElem?_range h];rfl
theorem zeh (h:xs[xs.length-1]?=some v):atI xs (-1)=some v:=by
  have hl:0<xs.length:=by
    have:=(List.getElem?_eq_some_iff.mp h).1;lia
  unfold atI ixN
  rw [if_neg (by decide),if_pos (by lia)]
  show (some _).bind _=_
  rw [Option.bind_some,←h]
  congr 1
  lia
inductive zbK (vs:List V) (H:Hp) (Q:VK) (E:XK):Prop
  | mk (tb fa pa la:Addr) (p m t b x:Nat) (c1:vs=[.ref tb,Vn x]) (c2:Tab H tb fa pa la p m t b) (c3:0<x) (c4:x<p^m) (c5:∀n r H',Ord p m t x n→n≤p^m-1→Same H H'→H r=none→H' r=some (.lst ((Pwn p m t x n).map Vn))→Q (.ref r) H'):zbK vs H Q E
theorem ybP:yaf ["_law_table_here","_law_root","_law_found"] ["_law_table_here","_law_root"] (zac ybw):=⟨rfl,rfl,rfl,by decide +kernel,rfl,by decide +kernel,by decide +kernel⟩
theorem zfs (B:Bl mg) (h__law_times:Has P w K mg base 1 "_law_times" ["_law_table_here","_law_one","_law_other"] zbL) (F:Fun K "_law_roots" "_law_roots" ybw f fd):FnOk P w K mg base CX0 2 f fd ["_law_table_here","_law_root"] zbK:=by
  refine F.ok ybP (fun vs H Q E h=>?_) (fun cdv A outer s H vs Q E hr h=>?_)
  · obtain ⟨tb,fa,pa,la,p,m,t,b,x,rfl,_⟩:=h;rfl
  obtain ⟨tb,fa,pa,la,p,m,t,b,x,rfl,T,h0,hx,q⟩:=h
  have G:=T.good
  have hp:=G.hp
  have hm:=G.hm
  have hQ:=G.hq
  have hQ2:=ya9 hp hm
  refine ⟨_,((2<|>ybP.nd<|>(@zap _ _ _ _ (zaa>=>yaa)))<=<(@zaG _ _ _ _ _ _ PassesOwn.never (zbW∪(h__law_times<$>((pv 0)>=>(zai<<<(pv 2)<<<(@zch _ _ _ _ _ _ zbw zaa))>=>(pv 1)>=>yaa))∪zaa) (~~~(@ybp _ _ _ _ (@zdw _ _ _ _ _ _ _ _ _ _ _ _ PySem.F.plainAttrs_list PySem.F.slot_list_append PySem.F.type_list_append yaV (pv 2) ((h__law_times<$>((pv 0)>=>(zai<<<(pv 2)<<<(@zch _ _ _ _ _ _ zbw zaa))>=>(pv 1)>=>yaa))>=>yaa) (by rfl) (by rfl) (by rfl) (by rfl) (by rfl)) (by rfl))))<=<(~~~((pv 2)⁻¹))),?_⟩
  try dsimp only [cxOf]
  refine ⟨szl 1,fun l hl=>?_⟩
  let I3:St→Hp→Prop:=fun σ H'=>Same H H'∧∃k,An5 (1≤k) (k≤p^m-1) (H' l=some (.lst ((Pwn p m t x k).map Vn))) (σ=[some (.ref tb),some (Vn x),some (.ref l)]) (∀i,0<i→i<k→pw p m t x i≠1)
  refine zaI I3 (fun _ H'=>p^m-yb9 H' l) ⟨yab hl _,1,by lia,by lia,zab,rfl,fun i h1 h2=>by lia⟩ ?_
  rintro σ H' ⟨sm,k,hk1,hk2,el,rfl,hne⟩
  have hlen:yb9 H' l=k:=by rw [za4 el];simp [Pwn]
  have T':=T.same sm
  have hlast:atI ((Pwn p m t x k).map Vn) (-1)=some (Vn (pw p m t x (k-1))):=zeh (by rw [List.length_map,yck,ybm (by rw [yck];lia),ygb (by lia)])
  have hstep:mul p m t (pw p m t x (k-1)) x=pw p m t x k:=by
    obtain ⟨j,rfl⟩:∃j,k=j+1:=⟨k-1,by lia⟩
    rfl
  refine ⟨_,rfl,_,rfl,_,rfl,l,_,_,_,rfl,rfl,SqL.of el,hlast,?_⟩
  refine ⟨_,rfl,tb,fa,pa,la,p,m,t,b,pw p m t x (k-1),x,rfl,T',zcv hp hm _ _,hx,?_⟩
  rw [hstep]
  refine ⟨rfl,_,rfl,?_⟩
  rw [yc5]
  refine ite2 (fun c=>?_) (fun c=>?_)
  · have hk:pw p m t x k≠1:=by
      intro e
      rw [decide_eq_true e] at c
      exact absurd c (by decide)
    have hk3:k<p^m-1:=by
      rcases Nat.lt_or_ge k (p^m-1) with h|h
      · exact h
      · have:k=p^m-1:=by lia
        rw [this] at hk
        exact absurd (G.fermat h0 hx) hk
    refine ⟨fun σ' H''=>Same H H''∧σ'=[some (.ref tb),some (Vn x),some (.ref l)]∧H'' l=some (.lst ((Pwn p m t x (k+1)).map Vn)),?_,?_⟩
    · rintro σ' H'' ⟨a1,rfl,a3⟩
      have hl2:yb9 H'' l=k+1:=by rw [za4 a3];simp [Pwn]
      refine ⟨_,?_,rfl,a1,k+1,by lia,by lia,a3,rfl,fun i h1 h2=>?_⟩
      · rw [hl2,hlen];lia
      · rcases Nat.lt_or_ge i k with h|h
        · exact hne i h1 h
        · rw [show i=k by lia];exact hk
    · refine ⟨_,rfl,.inl ⟨rfl,_,SqL.of el⟩,?_⟩
      refine ⟨_,rfl,_,rfl,_,rfl,l,_,_,_,rfl,rfl,SqL.of el,hlast,?_⟩
      refine ⟨_,rfl,tb,fa,pa,la,p,m,t,b,pw p m t x (k-1),x,rfl,T',zcv hp hm _ _,hx,?_⟩
      rw [hstep]
      refine ⟨l,_,_,rfl,rfl,el,by rw [List.length_map,yck];exact yai (by lia),?_⟩
      have e3:(Pwn p m t x k).map Vn++[Vn (pw p m t x k)]=(Pwn p m t x (k+1)).map Vn:=by
        unfold Pwn;rw [List.range_succ,List.map_append,List.map_append];rfl
      rw [e3]
      exact ⟨yfY sm hl,rfl,zab⟩
  · have hk:pw p m t x k=1:=by
      rcases Nat.decEq (pw p m t x k) 1 with h|h
      · exact absurd (by rw [decide_eq_false h];rfl) c
      · exact h
    exact ⟨_,rfl,q k l _ ⟨hk1,hk,hne⟩ hk2 sm hl el⟩
end
end My
end
section
namespace My
open PySem L2 Dg
local macro_rules | `(tactic| walk_at "rd") => `(tactic| repeat (first | refine ⟨_, rfl, ?_⟩ | refine ⟨_, _, rfl, rfl, ?_⟩))
section
variable {P:Program} {w:World} {mg:Str→Option Value} {base:Heap} {f:Addr} {fd:FuncData}
theorem zcF:yaf ["field"] ["field"] (zac zba):=⟨rfl,rfl,rfl,by decide +kernel,rfl,by decide +kernel,by decide +kernel⟩
theorem zax:yaf ["field","one","many","product"] ["field","one","many"] (zac za6):=⟨rfl,rfl,rfl,by decide +kernel,rfl,by decide +kernel,by decide +kernel⟩
end
end My
end
section
namespace My
open PySem L2 Dg
local macro_rules | `(tactic| walk_at "rd") => `(tactic| repeat (first | refine ⟨_, rfl, ?_⟩ | refine ⟨_, _, rfl, rfl, ?_⟩))
end My
end
section
namespace My
open PySem L2 Dg
local macro_rules | `(tactic| walk_at "rd") => `(tactic| repeat (first | refine ⟨_, rfl, ?_⟩ | refine ⟨_, _, rfl, rfl, ?_⟩))
section
variable {p m t:Nat} (G:Good p m t)
include G
theorem Ord.dvd {x n k:Nat} (hx:x<p^m) (o:Ord p m t x n) (h:pw p m t x k=1):k%n=0:=by
  have hp:=G.hp
  have hm:=G.hm
  rcases Nat.eq_zero_or_pos (k%n) with c|c
  · exact c
  · have e:pw p m t x (n*(k/n)+k%n)=1:=by rw [Nat.div_add_mod];exact h
    rw [zb8 hp hm,ycr hp hm,o.one,yek hp hm,ybi hp hm (zcv hp hm _ _)] at e
    exact absurd e (o.min _ c (Nat.mod_lt _ (by have:=o.pos;lia)))
theorem Ord.round {x n few:Nat} (h0:0<x) (hx:x<p^m) (o:Ord p m t x n) (hf:m%few=0) (hf1:1≤few):(p^few)^(m/few)%n=1%n:=by
  have hp:=G.hp
  have hm:=G.hm
  have h1:=Ord.dvd G hx o (G.fermat h0 hx)
  have hQ:=ya9 hp hm
  have e:few*(m/few)=m:=by have:=Nat.div_add_mod m few;rw [hf] at this;lia
  rw [←Nat.pow_mul,e]
  obtain ⟨c,hc⟩:=Nat.dvd_of_mod_eq_zero h1
  rw [show p^m=1+n*c by lia,Nat.add_mul_mod_self_left]
end
section
variable {P:Program} {w:World} {mg:Str→Option Value} {base:Heap} {f:Addr} {fd:FuncData}
def ybc (i n q L:Nat):List Nat:=(List.range L).map fun j=>i*q^j%n
theorem zdn {i n q L j:Nat} (h:j<L):(ybc i n q L).getD j 0=i*q^j%n:=by unfold ybc;rw [List.getD_eq_getElem?_getD,List.getElem?_map,List.getElem?_range h];rfl
theorem ydG {q e n:Nat} (hr:q^e%n=1%n) (he:1≤e) (i a:Nat):i*q^a*q^(e*a-a)%n=i%n:=by
  have h:a≤e*a:=Nat.le_mul_of_pos_left a he
  rw [Nat.mul_assoc,←Nat.pow_add,show a+(e*a-a)=e*a by lia,Nat.pow_mul,Nat.mul_mod,Nat.pow_mod,hr,←Nat.pow_mod,Nat.one_pow,←Nat.mul_mod,Nat.mul_one]
theorem yeA {i n q e L:Nat} (hr:q^e%n=1%n) (he:1≤e) (h:∀j,0<j→j<L→i*q^j%n≠i%n):(ybc i n q L).Nodup:=by
  refine ybs _ fun a b ha hb e1=>?_
  have key:∀a b:Nat,a<b→b<L→i*q^a%n=i*q^b%n→False:=fun a b hab hb e1=>by
    refine h (b-a) (by lia) (by lia) ?_
    have e2:=ydG hr he i a
    rw [Nat.mul_mod,e1,←Nat.mul_mod,show i*q^b=i*q^(b-a)*q^a by rw [Nat.mul_assoc,←Nat.pow_add,show b-a+a=b by lia],ydG hr he] at e2
    exact e2
  rcases Nat.lt_trichotomy a b with h1|h1|h1
  · exact (key a b h1 hb e1).elim
  · exact h1
  · exact (key b a h1 ha e1.symm).elim
theorem zfw {i n q L:Nat} (heq:i*q^L%n=i*q^0%n) (hL:0<L) (j:Nat):i*q^j%n∈ybc i n q L:=by
  induction j with
  | zero=>exact List.mem_map.mpr ⟨0,List.mem_range.mpr hL,rfl⟩
  | succ j ih =>
    obtain ⟨k,hk,ek⟩:=List.mem_map.mp ih
    have hk:=List.mem_range.mp hk
    have e2:i*q^(j+1)%n=i*q^(k+1)%n:=by
      rw [Nat.pow_succ,Nat.pow_succ,←Nat.mul_assoc,←Nat.mul_assoc,Nat.mul_mod,←ek,←Nat.mul_mod]
    rw [e2]
    by_cases c:k+1<L
    · exact List.mem_map.mpr ⟨k+1,List.mem_range.mpr c,rfl⟩
    · rw [show k+1=L by lia,heq]
      exact List.mem_map.mpr ⟨0,List.mem_range.mpr hL,rfl⟩
inductive zcb (vs:List V) (H:Hp) (Q:VK) (E:XK):Prop
  | mk (i n q e:Nat) (c1:vs=[Vn i,Vn n,Vn q]) (c2:0<n) (c3:n≤64) (c4:q≤64) (c5:1≤e) (c6:e≤6) (c7:q^e%n=1%n) (c8:∀r (ns:List Nat) H',Same H H'→H r=none→H' r=some (.lst (ns.map Vn))→0<ns.length→ns.length≤6→(∀x∈ns,x<n)→(∀x∈ns,x*q%n∈ns)→ns.Nodup→(∀x∈ns,∃j,x=i*q^j%n)→(∀j,i*q^j%n∈ns)→Q (.ref r) H'):zcb vs H Q E
theorem zb3:yaf ["_law_i","_law_n","_law_q","_law_found"] ["_law_i","_law_n","_law_q"] (zac zbH):=⟨rfl,rfl,rfl,by decide +kernel,rfl,by decide +kernel,by decide +kernel⟩
theorem yfU (B:Bl mg) (F:Fun K "_law_ring" "_law_ring" zbH f fd):FnOk P w K mg base CX0 1 f fd ["_law_i","_law_n","_law_q"] zcb:=by
  refine F.ok zb3 (fun vs H Q E h=>?_) (fun cdv A outer s H vs Q E hr h=>?_)
  · obtain ⟨i,n,q,e,rfl,_⟩:=h;rfl
  obtain ⟨i,n,q,e,rfl,hn,hn2,hq,he1,he2,hr1,q'⟩:=h
  refine ⟨_,((3<|>zb3.nd<|>(@zap _ _ _ _ ((yan|||(pv 0)|||(pv 1))>=>yaa)))<=<(@zaG _ _ _ _ _ _ PassesOwn.never (zbW∪(yan|||(zaJ|||(zai<<<(pv 3)<<<(@zch _ _ _ _ _ _ zbw zaa))|||(pv 2))|||(pv 1))∪(zai<<<(pv 3)<<<zaa)) (~~~(@ybp _ _ _ _ (@zdw _ _ _ _ _ _ _ _ _ _ _ _ PySem.F.plainAttrs_list PySem.F.slot_list_append PySem.F.type_list_append yaV (pv 3) ((yan|||(zaJ|||(zai<<<(pv 3)<<<(@zch _ _ _ _ _ _ zbw zaa))|||(pv 2))|||(pv 1))>=>yaa) (by rfl) (by rfl) (by rfl) (by rfl) (by rfl)) (by rfl))))<=<(~~~((pv 3)⁻¹))),?_⟩
  try dsimp only [cxOf]
  refine ⟨_,rfl,_,rfl,_,_,rfl,rfl,by show (0:Int)<n;lia,szl 1,fun l hl=>?_⟩
  dsimp only [yat]
  let I1:St→Hp→Prop:=fun σ H'=>∃L:Nat,An5 (1≤L) (L≤e) (∀j,0<j→j<L→i*q^j%n≠i%n) (H'=upd H l (.lst ((ybc i n q L).map Vn))) (σ=[some (Vn i),some (Vn n),some (Vn q),some (.ref l)])
  refine zaI I1 (fun _ H'=>7-yb9 H' l) ⟨1,Nat.le_refl _,he1,fun j _ _=>by lia,by simp [ybc];rfl,rfl⟩ ?_
  rintro σ H' ⟨L,h1,h2,hne0,rfl,rfl⟩
  have el:upd H l (.lst ((ybc i n q L).map Vn)) l=some (.lst ((ybc i n q L).map Vn)):=zab
  have ll:(ybc i n q L).length=L:=by simp [ybc]
  have hlast:atI ((ybc i n q L).map Vn) (-1)=some (Vn (i*q^(L-1)%n)):=zeh (by rw [List.length_map,ll,ybm (by lia),zdn (by lia)])
  have hfirst:atI ((ybc i n q L).map Vn) 0=some (Vn (i*q^0%n)):=zaB (j:=0) (by rw [ybm (by lia),zdn (by lia)])
  have hml:i*q^(L-1)%n<n:=Nat.mod_lt _ hn
  refine ⟨_,rfl,_,rfl,l,_,_,_,rfl,rfl,SqL.of el,hlast,_,rfl,_,_,rfl,rfl,.inl ⟨by show -(2^64:Int)<((i*q^(L-1)%n:Nat):Int);lia,by show ((i*q^(L-1)%n:Nat):Int)<2^64;lia⟩,?_⟩
  refine ⟨_,rfl,_,_,rfl,rfl,by show (0:Int)<n;lia,?_⟩
  refine ⟨_,rfl,l,_,_,_,rfl,rfl,SqL.of el,hfirst,rfl,_,rfl,?_⟩
  have en:(i*q^(L-1)%n)*q%n=i*q^L%n:=by
    rw [Nat.mod_mul_mod,Nat.mul_assoc,←Nat.pow_succ,show (L-1).succ=L by lia]
  have e0:i*q^0%n=i%n:=by rw [Nat.pow_zero,Nat.mul_one]
  refine ite2 (fun c=>?_) (fun c=>?_)
  · have hne:i*q^L%n≠i%n:=by
      intro h
      have:(V.int ((((i*q^(L-1)%n:Nat):Int)*(q:Int))%(n:Int)))=Vn (i*q^0%n):=by
        show V.int _=V.int _
        congr 1
        rw [e0,←h,←en];rfl
      rw [decide_eq_true this] at c
      exact absurd c (by decide)
    have hL:L<e:=by
      rcases Nat.lt_or_ge L e with h|h
      · exact h
      · have hle:L=e:=by lia
        rw [hle] at hne
        refine absurd ?_ hne
        rw [Nat.mul_mod,hr1,←Nat.mul_mod,Nat.mul_one]
    refine ⟨fun σ' H'=>H'=upd H l (.lst ((ybc i n q (L+1)).map Vn))∧σ'=[some (Vn i),some (Vn n),some (Vn q),some (.ref l)],?_,?_⟩
    · rintro σ' H' ⟨rfl,rfl⟩
      refine ⟨_,?_,rfl,L+1,by lia,by lia,fun j j0 j1=>?_,rfl,rfl⟩
      case refine_2 =>
        rcases Nat.lt_or_ge j L with h|h
        · exact hne0 j j0 h
        · rw [show j=L by lia];exact hne
      rw [za4 zab,za4 zab,List.length_map,List.length_map,ll,show (ybc i n q (L+1)).length=L+1 by simp [ybc]]
      lia
    · refine ⟨_,rfl,.inl ⟨rfl,_,SqL.of el⟩,?_⟩
      refine ⟨_,rfl,_,rfl,l,_,_,_,rfl,rfl,SqL.of el,hlast,_,rfl,_,_,rfl,rfl,.inl ⟨by show -(2^64:Int)<((i*q^(L-1)%n:Nat):Int);lia,by show ((i*q^(L-1)%n:Nat):Int)<2^64;lia⟩,?_⟩
      refine ⟨_,rfl,_,_,rfl,rfl,by show (0:Int)<n;lia,?_⟩
      refine ⟨l,_,_,rfl,rfl,el,by rw [List.length_map,ll];exact yai (by lia),?_,rfl⟩
      rw [zdY]
      congr 2
      have e1:ybc i n q (L+1)=ybc i n q L++[i*q^L%n]:=by unfold ybc;rw [List.range_succ,List.map_append];rfl
      rw [e1,List.map_append,←en];rfl
  · have heq:i*q^L%n=i*q^0%n:=by
      have h:decide (V.int ((((i*q^(L-1)%n:Nat):Int)*(q:Int))%(n:Int))=Vn (i*q^0%n))=true:=by
        rcases hb:decide (V.int ((((i*q^(L-1)%n:Nat):Int)*(q:Int))%(n:Int))=Vn (i*q^0%n)) with _|_
        · exact absurd (show (!decide (V.int ((((i*q^(L-1)%n:Nat):Int)*(q:Int))%(n:Int))=Vn (i*q^0%n)))=true by rw [hb];rfl) c
        · rfl
      have h2:=V.int.inj (of_decide_eq_true h)
      rw [←en]
      exact Int.ofNat.inj h2
    refine ⟨_,rfl,q' l (ybc i n q L) _ (yab hl _) hl el (by rw [ll];lia) (by rw [ll];lia) (fun x hx=>?_) (fun x hx=>?_) ?_ (fun x hx=>?_) (zfw heq (by lia))⟩
    rotate_left 2
    · refine yeA hr1 (by lia) hne0
    · obtain ⟨j,_,rfl⟩:=List.mem_map.mp hx
      exact ⟨j,rfl⟩
    · obtain ⟨j,_,rfl⟩:=List.mem_map.mp hx
      exact Nat.mod_lt _ hn
    · obtain ⟨j,hj,rfl⟩:=List.mem_map.mp hx
      have hj:=List.mem_range.mp hj
      have e2:i*q^j%n*q%n=i*q^(j+1)%n:=by rw [Nat.mod_mul_mod,Nat.mul_assoc,←Nat.pow_succ]
      rw [e2]
      by_cases cj:j+1<L
      · exact List.mem_map.mpr ⟨j+1,List.mem_range.mpr cj,rfl⟩
      · rw [show j+1=L by lia,heq]
        exact List.mem_map.mpr ⟨0,List.mem_range.mpr (by lia),rfl⟩
theorem zc4 (a b:Nat):decide (V.int ((a:Int)%(b:Int))=V.int 0)=decide (a%b=0) :=
  decide_eq_decide.mpr ⟨fun e=>Int.ofNat.inj (show Int.ofNat (a%b)=Int.ofNat 0 from V.int.inj e),fun e=>congrArg V.int (show Int.ofNat (a%b)=Int.ofNat 0 from congrArg Int.ofNat e)⟩
structure Whl (p m t few root n:Nat) (marks:List Nat):Prop where
  few1:1≤few
  fewm:m%few=0
  r0:0<root
  rq:root<p^m
  ord:Ord p m t root n
  nq:n≤p^m-1
  asc:marks.Pairwise (· < ·)
  lt:∀x∈marks,x<n
  closed:∀x∈marks,x*p^few%n∈marks
structure WhAt (H:Hp) (wh fa mk:Addr) (few root:Nat) (marks:List Nat):Prop where
  w:H wh=some (.tup [.ref fa,Vn few,Vn root,.ref mk])
  k:H mk=some (.tup (marks.map Vn))
theorem WhAt.same {H H':Hp} {wh fa mk:Addr} {few root:Nat} {marks:List Nat} (h:WhAt H wh fa mk few root marks) (s:Same H H'):WhAt H' wh fa mk few root marks:=⟨s _ _ h.w,s _ _ h.k⟩
theorem WhAt.x {pu g:Addr} {H H':Hp} {wh fa mk:Addr} {few root:Nat} {marks:List Nat} (h:WhAt H wh fa mk few root marks) (n1:wh≠pu∧wh≠g) (n2:mk≠pu∧mk≠g) (s:zaf pu g H H'):WhAt H' wh fa mk few root marks:=⟨s _ _ n1.1 n1.2 h.w,s _ _ n2.1 n2.2 h.k⟩
noncomputable def za7 (p m t:Nat) (H:Hp) (a:Addr):Prop:=Ex2 fun (n x:Nat)=>H a=some (.tup [Vn n,Vn x])∧Ord p m t x n∧n≤p^m-1∧0<x∧x<p^m
theorem za7.same {p m t:Nat} (h:za7 p m t H a) (s:Same H H'):za7 p m t H' a:=by obtain ⟨n,x,h1,r⟩:=h;exact ⟨n,x,s _ _ h1,r⟩
theorem Pu.tup_ne (h:Pu H pu g) (e:H a=some (.tup xs)):a≠pu∧a≠g:=by
  obtain ⟨ns,s,t,h1,h2⟩:=h
  exact ⟨fun q=>(by rw [q,h1] at e;cases e),fun q=>(by rw [q,h2] at e;cases e)⟩
def pn (H:Hp) (a:Addr):Nat:=match H a with
  | some (.tup (.int n::_))=>n.toNat
  | _=>0
theorem ybY {n x:Nat} (h:H a=some (.tup [Vn n,Vn x])):pn H a=n:=by unfold pn;rw [h];rfl
theorem zaQ {α:Type} {xs:List α} {k:Nat} {a:α} (h:xs[k]?=some a):xs.take (k+1)=xs.take k++[a]:=by
  obtain ⟨hk,e⟩:=List.getElem?_eq_some_iff.mp h
  rw [List.take_succ_eq_append_getElem hk,e]
theorem zdV {ts:List Addr} {k:Nat} {z:V} (h:(ts.map V.ref)[k]?=some z):∃a,ts[k]?=some a∧z = .ref a:=by
  rw [List.getElem?_map] at h
  rcases e:ts[k]? with _|a
  · rw [e] at h;cases h
  · rw [e] at h;exact ⟨a,rfl,(Option.some.inj h).symm⟩
inductive zct (vs:List V) (H:Hp) (Q:VK) (E:XK):Prop
  | mk (pu g:Addr) (most:Nat) (c1:vs=[.ref pu,Vn most]) (c2:Pu H pu g) (c3:1≤most) (c4:∀(r tb fa pa la wh mk:Addr) (p m t b few root n:Nat) (marks:List Nat) H',H' r=some (.tup [.ref tb,.ref wh])→Tab H' tb fa pa la p m t b→yfz pu g tb fa pa la→WhAt H' wh fa mk few root marks→(wh≠pu∧wh≠g)→(mk≠pu∧mk≠g)→(r≠pu∧r≠g)→Whl p m t few root n marks→n≤most→Pu H' pu g→zaf pu g H H'→Q (.ref r) H'):zct vs H Q E
theorem zae:yaf ["_law_purse_here","_law_most","_law_way","_law_far","_law_table_here","_law_fews","_law_few","_law_q","_law_rounds","_law_greatest","_law_n","_law_root","_law_marks_here","_law_first","_law_many","_law_k"] ["_law_purse_here","_law_most"] (zac zas):=⟨rfl,rfl,rfl,by decide +kernel,rfl,by decide +kernel,by decide +kernel⟩
theorem zfc (B:Bl mg) (h__law_pick:Has P w K mg base 1 "_law_pick" ["_law_purse_here","_law_many"] yaW) (h__law_field:Has P w K mg base 4 "_law_field" ["_law_purse_here"] ycW) (h__law_table:Has P w K mg base 3 "_law_table" ["_law_field_here"] ycd) (h__law_raised:Has P w K mg base 1 "_law_raised" ["_law_one","_law_many"] yag)
    (h__law_round:Has P w K mg base 2 "_law_round" ["_law_table_here","_law_one"] zcq) (h__law_ring:Has P w K mg base 1 "_law_ring" ["_law_i","_law_n","_law_q"] zcb) (F:Fun K "_law_wheel" "_law_wheel" zas f fd):FnOk P w K mg base CX0 5 f fd ["_law_purse_here","_law_most"] zct:=by
  refine F.ok zae (fun vs H Q E h=>?_) (fun cdv A outer s H vs Q E hr h=>?_)
  · obtain ⟨pu,g,most,rfl,_⟩:=h;rfl
  obtain ⟨pu,g,most,rfl,hP,hmost,q⟩:=h
  refine ⟨_,((@yb3 _ _ 2 3 _ _ _ _ _ _ _ _ _ _ _ rfl zae.nd rfl rfl (by decide) rfl rfl ((h__law_pick<$>((pv 0)>=>zaa>=>yaa))>=>(h__law_pick<$>((pv 0)>=>zaa>=>yaa))>=>yaa) rfl (by rfl))<=<(4<|>zae.nd<|>(h__law_table<$>((h__law_field<$>((pv 0)>=>yaa))>=>yaa)))<=<(@ycs _ 5 _ _ _ _ _ _ _ _ _ ["_law_few"] ["_law_table_here"] [4] _ _ _ _ zae.nd rfl (Or.inl rfl) (id (α:=CSc ["_law_purse_here","_law_most","_law_way","_law_far","_law_table_here","_law_fews","_law_few","_law_q","_law_rounds","_law_greatest","_law_n","_law_root","_law_marks_here","_law_first","_law_many","_law_k"] (zac zas) ["_law_few"] ["_law_table_here"] [4] _) ⟨by rfl,by decide +kernel,by decide +kernel,by decide +kernel,by decide +kernel,by rfl,by decide +kernel⟩) rfl (@zaV _ _ _ _ _ _ _ rfl (B "range" (by decide)) (zaa>=>(yal|||((pv 4)⊃zaF)|||zaa)>=>yaa) (by rfl) (by rfl)) (fun cl C fp s H=>(0⊇["_law_few","_law_table_here"])) (fun _ _ _ _ _=>(@zcf _ _ _ (zaZ∪(yan|||((pv 1)⊃zaF)|||(pv 0))∪zaa))) (fun _ _ _ _ _=>(pv 0)) (by rfl) (by intro _;rfl) (by trivial))<=<(6<|>zae.nd<|>(zai<<<(pv 5)<<<(h__law_pick<$>((pv 0)>=>(yah>>>("len",PySem.boot_len,((pv 5)>=>yaa)))>=>yaa))))<=<(7<|>zae.nd<|>(h__law_raised<$>(((pv 4)⊃zaF)>=>(pv 6)>=>yaa)))<=<(@ycs _ 8 _ _ _ _ _ _ _ _ _ ["_law_one"] ["_law_table_here"] [4] _ _ _ _ zae.nd rfl (Or.inl rfl) (id (α:=CSc ["_law_purse_here","_law_most","_law_way","_law_far","_law_table_here","_law_fews","_law_few","_law_q","_law_rounds","_law_greatest","_law_n","_law_root","_law_marks_here","_law_first","_law_many","_law_k"] (zac zas) ["_law_one"] ["_law_table_here"] [4] _) ⟨by rfl,by decide +kernel,by decide +kernel,by decide +kernel,by decide +kernel,by rfl,by decide +kernel⟩) rfl (@zaV _ _ _ _ _ _ _ rfl (B "range" (by decide)) (zaa>=>((pv 4)⊃zaF)>=>yaa) (by rfl) (by rfl)) (fun cl C fp s H=>(0⊇["_law_one","_law_table_here"])) (fun _ _ _ _ _=>zaP) (fun _ _ _ _ _=>(@yax _ _ _ _ _ ((h__law_round<$>((pv 1)>=>(pv 0)>=>yaa))>=>(pv 0)>=>yaa))) (by rfl) (by intro _;rfl) (by trivial))<=<(@ycs _ 8 _ _ _ _ _ _ _ _ _ ["_law_pair"] ["_law_most"] [1] _ _ _ _ zae.nd rfl (Or.inl rfl) (id (α:=CSc ["_law_purse_here","_law_most","_law_way","_law_far","_law_table_here","_law_fews","_law_few","_law_q","_law_rounds","_law_greatest","_law_n","_law_root","_law_marks_here","_law_first","_law_many","_law_k"] (zac zas) ["_law_pair"] ["_law_most"] [1] _) ⟨by rfl,by decide +kernel,by decide +kernel,by decide +kernel,by decide +kernel,by rfl,by decide +kernel⟩) rfl (@yb2 _ _ _ _ (pv 8)) (fun cl C fp s H=>(0⊇["_law_pair","_law_most"])) (fun _ _ _ _ _=>(@zcf _ _ _ (ycG∪((zd2 (K:=K) rfl)<<<(pv 0)<<<zaa)∪(pv 1)))) (fun _ _ _ _ _=>(pv 0)) (by rfl) (by intro _;rfl) (by trivial))<=<(9<|>zae.nd<|>((zfl rfl)>>>("max",ycA,((["_law_pair"]⊆([],[],["_law_purse_here","_law_most","_law_way","_law_far","_law_table_here","_law_fews","_law_few","_law_q","_law_rounds","_law_greatest","_law_n","_law_root","_law_marks_here","_law_first","_law_many","_law_k"],zas,(@yb2 _ _ _ _ (pv 8)),(0⊇["_law_pair"]),zaP,((zd2 (K:=K) rfl)<<<(pv 0)<<<zaa)))>=>yaa))))<=<((ybM∪(pv 3)∪zaa)*>((~~~(@ycs _ 8 _ _ _ _ _ _ _ _ _ ["_law_pair"] ["_law_greatest"] [9] _ _ _ _ zae.nd rfl (Or.inl rfl) (id (α:=CSc ["_law_purse_here","_law_most","_law_way","_law_far","_law_table_here","_law_fews","_law_few","_law_q","_law_rounds","_law_greatest","_law_n","_law_root","_law_marks_here","_law_first","_law_many","_law_k"] (zac zas) ["_law_pair"] ["_law_greatest"] [9] _) ⟨by rfl,by decide +kernel,by decide +kernel,by decide +kernel,by decide +kernel,by rfl,by decide +kernel⟩) rfl (@yb2 _ _ _ _ (pv 8)) (fun cl C fp s H=>(0⊇["_law_pair","_law_greatest"])) (fun _ _ _ _ _=>(@zcf _ _ _ (zaZ∪((zd2 (K:=K) rfl)<<<(pv 0)<<<zaa)∪(pv 1)))) (fun _ _ _ _ _=>(pv 0)) (by rfl) (by intro _;rfl) (by trivial))),yae))<=<((zai<<<(pv 8)<<<(h__law_pick<$>((pv 0)>=>(yah>>>("len",PySem.boot_len,((pv 8)>=>yaa)))>=>yaa)))≈((10&&&zae.nd)∩((11&&&zae.nd)∩yaA)))<=<(12<|>zae.nd<|>(@zap _ _ _ _ yaa))<=<((zaZ∪(pv 2)∪zaa)*>((~~~(12<|>zae.nd<|>((zdg rfl)<*("list",za3,((@zfo _ _ _ _ _ rfl (B "range" (by decide)) ((pv 10)>=>yaa) (by rfl))>=>yaa))))),(~~~((zaZ∪(pv 2)∪zaa)*>((~~~(12<|>zae.nd<|>(h__law_ring<$>((h__law_pick<$>((pv 0)>=>(pv 10)>=>yaa))>=>(pv 10)>=>(pv 7)>=>yaa)))),(~~~((ybM∪(pv 2)∪zaa)*>(((@yb3 _ _ 13 14 _ _ _ _ _ _ _ _ _ _ _ rfl zae.nd rfl rfl (by decide) rfl rfl ((h__law_pick<$>((pv 0)>=>(pv 10)>=>yaa))>=>(h__law_pick<$>((pv 0)>=>(pv 10)>=>yaa))>=>yaa) rfl (by rfl))<=<(~~~((↑((pv 14)>=>yaa))<&>((15&&&zae.nd),(~~~((@PW.pt _ _ _ (@yaQ _ _ _ _ _ _ _ (ybM∪(pv 2)∪zaa) (@yaD _ _ _ _ (zaZ∪(h__law_pick<$>((pv 0)>=>zaa>=>yaa))∪zaa))))*>((~~~(12<|>zae.nd<|>(zcR|||(pv 12)|||(h__law_ring<$>((yal|||(pv 13)|||(pv 15))>=>(pv 10)>=>(pv 7)>=>yaa))))),yae))))))),yae))))))))<=<(~~~((@yax _ _ _ _ _ ((pv 4)>=>(@yax _ _ _ _ _ (((pv 4)⊃zaF)>=>(pv 6)>=>(pv 11)>=>(ybL<*("tuple",zaj,((@yeu _ _ _ _ _ _ _ rfl rfl (B "sorted" (by decide)) rfl (B "set" (by decide)) (pv 12) (by rfl) (by rfl))>=>yaa)))>=>yaa))>=>yaa))⁻¹))),?_⟩
  try dsimp only [cxOf]
  refine ⟨_,rfl,pu,g,6,rfl,hP,by lia,by lia,fun way H1 hway hP1 sx1=>?_⟩
  refine ⟨_,rfl,pu,g,3,rfl,hP1,by lia,by lia,fun far H2 hfar hP2 sx2=>?_⟩
  refine ⟨_,_,rfl,?_⟩
  refine ⟨_,rfl,pu,g,rfl,hP2,fun fa p m t H3 nf1 nf2 nf ef G hP3 sx3=>?_⟩
  refine ⟨fa,p,m,t,rfl,ef,G,fun tb pa la b H4 ntb npa nla T4 s4=>?_⟩
  have hP4:=hP3.same s4
  have ap:yfz pu g tb fa pa la:=⟨(hP3.lt ntb).1,(hP3.lt ntb).2,nf1,nf2,(hP3.lt npa).1,(hP3.lt npa).2,(hP3.lt nla).1,(hP3.lt nla).2⟩
  have sx4:=(sx1.trans (sx2.trans sx3)).trans (Same.x s4)
  have hp:=G.hp
  have hm:=G.hm
  have hQ:=G.hq
  have hQ2:=ya9 hp hm
  have hm6:=m_le hp hQ
  refine ⟨_,rfl,tb,_,rfl,T4.get ygE,_,_,rfl,rfl,?_⟩
  refine ⟨1,((m+1:Nat):Int),rfl,by lia,?_⟩
  refine yav zbB (fun k acc H'=>H'=H4∧∃fs:List Nat,acc=fs.map Vn∧(∀f∈fs,1≤f∧m%f=0)∧fs.length≤k∧(0<k→0<fs.length)) ⟨rfl,([]:List Nat),rfl,fun f hf=>absurd hf (by simp),Nat.le_refl _,fun h=>absurd h (Nat.lt_irrefl _)⟩ (fun _ _ _ _ _=>trivial) ?_ ?_ ?_
  · rintro k acc H' hk ⟨_,fs,rfl,_,hl,_⟩
    rw [List.length_map];exact yai (by lia)
  · rintro k acc x H' H'' hk ⟨rfl,fs,rfl,hfs,hl,h0⟩ ⟨rfl,rfl⟩
    refine ⟨_,rfl,tb,_,rfl,T4.get ygE,_,rfl,_,_,rfl,rfl,by show (0:Int)<1+(k:Int);lia,rfl,_,rfl,?_⟩
    have ed:decide (V.int ((m:Int)%(1+(k:Int)))=V.int 0)=decide (m%(1+k)=0):=by rw [show (1+(k:Int))=((1+k:Nat):Int) by lia];exact zc4 _ _
    refine ite2 (fun c=>?_) (fun c=>?_)
    · have c1:m%(1+k)=0:=by rw [ed] at c;exact of_decide_eq_true c
      refine ⟨_,rfl,rfl,fs++[1+k],?_,?_,by simp;lia,fun _=>by simp⟩
      · rw [List.map_append,show V.int (1+(k:Int))=Vn (1+k) from zcZ (by lia)];rfl
      · intro f hf
        rcases List.mem_append.mp hf with h|h
        · exact hfs f h
        · cases List.mem_singleton.mp h;exact ⟨by lia,c1⟩
    · refine ⟨rfl,fs,rfl,hfs,by lia,fun _=>?_⟩
      by_cases c0:k=0
      · subst c0
        refine absurd ?_ c
        rw [ed,decide_eq_true (by show m%1=0;exact Nat.mod_one m)]
      · exact h0 (by lia)
  rintro acc H5 ⟨rfl,fs,rfl,hfs,hfl,hf0⟩ fl hfl'
  have hfl2:fs.length≤m:=by lia
  have hf1:0<fs.length:=hf0 (by lia)
  have s5:=yab hfl' (.lst (fs.map Vn))
  have T5:=T4.same s5
  have hP5:=hP4.same s5
  have nfl:=hP4.lt hfl'
  have e5:upd H5 fl (.lst (fs.map Vn)) fl=some (.lst (fs.map Vn)):=zab
  have sx5:=sx4.trans (Same.x s5)
  dsimp only [yat]
  generalize upd H5 fl (.lst (fs.map Vn))=H5' at s5 T5 hP5 e5 sx5 ⊢
  refine ⟨_,rfl,_,rfl,_,rfl,fl,_,rfl,.inl (SqL.of e5),?_⟩
  refine ⟨pu,g,fs.length,by rw [List.length_map];rfl,hP5,hf1,by lia,fun fi H6 hfi hP6 sx6=>?_⟩
  have hfew:=hfs (fs.getD fi 0) (by
    have:=List.getElem_mem hfi
    rwa [show fs.getD fi 0=fs[fi] by simp [List.getD,hfi]])
  have e6:=sx6 _ _ nfl.1 nfl.2 e5
  have sx6':=sx5.trans sx6
  refine ⟨fl,_,_,Vn (fs.getD fi 0),rfl,rfl,SqL.of e6,zaB (ybm hfi),?_⟩
  generalize fs.getD fi 0=few at hfew ⊢
  have hfewm:few≤m:=Nat.le_of_dvd (by lia) (Nat.dvd_of_mod_eq_zero hfew.2)
  have T6:=T5.x ap sx6
  dsimp only [yat]
  refine ⟨_,rfl,tb,_,rfl,T6.get zhr,_,rfl,p,few,rfl,p_le hp hm hQ,by lia,?_⟩
  have hqq:p^few≤64:=Nat.le_trans (Nat.pow_le_pow_right (by lia) hfewm) hQ
  dsimp only [yat]
  refine ⟨_,rfl,tb,_,rfl,T6.get zcg,?_⟩
  refine ⟨1,((p^m:Nat):Int),rfl,by lia,?_⟩
  refine yav zbB (fun k acc H'=>Same H6 H'∧∃ts:List Addr,acc=ts.map V.ref∧ts.length=k∧(∀a∈ts,za7 p m t H' a)∧(0<k→∃a∈ts,pn H' a=1)) ⟨Same.refl _,([]:List Addr),rfl,rfl,fun a ha=>absurd ha (by simp),fun h=>absurd h (Nat.lt_irrefl _)⟩ (fun _ _ _ _ _=>trivial) ?_ ?_ ?_
  · rintro k acc H' hk ⟨_,ts,rfl,hl,_⟩
    rw [List.length_map,hl];exact yai (by lia)
  · rintro k acc x H' H'' hk ⟨s',ts,rfl,hl,hts,h1⟩ ⟨rfl,rfl⟩
    have hk2:1+k<p^m:=by lia
    refine ⟨_,rfl,_,rfl,tb,fa,pa,la,p,m,t,b,1+k,?_,T6.same s',by lia,hk2,fun n o hn=>?_⟩
    · rw [show (1+(k:Int))=((1+k:Nat):Int) by lia];rfl
    refine ⟨_,rfl,szl 2,fun a ha=>?_⟩
    have sn:=yab ha (.tup [Vn n,.int (1+(k:Int))])
    have en:upd H'' a (.tup [Vn n,.int (1+(k:Int))]) a=some (.tup [Vn n,Vn (1+k)]):=by rw [zab];congr 1
    refine ⟨s'.trans sn,ts++[a],by rw [List.map_append];rfl,by simp [hl],?_,?_⟩
    · intro a' ha'
      rcases List.mem_append.mp ha' with h|h
      · exact (hts a' h).same sn
      · cases List.mem_singleton.mp h
        exact ⟨n,1+k,en,o,hn,by lia,hk2⟩
    · intro _
      by_cases c0:k=0
      · subst c0
        refine ⟨a,by simp,?_⟩
        rw [ybY en]
        have h2:=o.pos
        have h3:=o.le (k:=1) (by lia) (by rw [zdt hp hm (by lia)])
        lia
      · obtain ⟨a',ha',e'⟩:=h1 (by lia)
        obtain ⟨n',x',hx',_⟩:=hts a' ha'
        exact ⟨a',List.mem_append_left _ ha',by rw [ybY (sn _ _ hx'),←ybY hx'];exact e'⟩
  rintro acc H7 ⟨s7,ts,rfl,htl,hts,hone⟩ rl hrl
  have htl2:ts.length=p^m-1:=by
    rw [htl,show ((p^m:Nat):Int)-1=((p^m-1:Nat):Int) by lia];rfl
  obtain ⟨a1,ha1,ea1⟩:=hone (by lia)
  have s7':=s7.trans (yab hrl (.lst (ts.map V.ref)))
  have T7:=T6.same s7'
  have hP7:=hP6.same s7'
  have nrl:=(hP6.same s7).lt hrl
  have e7:upd H7 rl (.lst (ts.map V.ref)) rl=some (.lst (ts.map V.ref)):=zab
  have hts7:∀a∈ts,za7 p m t (upd H7 rl (.lst (ts.map V.ref))) a:=fun a ha=>(hts a ha).same (yab hrl _)
  have ea7:pn (upd H7 rl (.lst (ts.map V.ref))) a1=1:=by
    obtain ⟨n',x',hx',_⟩:=hts a1 ha1
    rw [ybY (yab hrl _ _ _ hx'),←ybY hx'];exact ea1
  have sx7:=sx6'.trans (Same.x s7')
  dsimp only [yat]
  generalize upd H7 rl (.lst (ts.map V.ref))=H8 at s7' T7 hP7 e7 hts7 ea7 sx7 ⊢
  refine ⟨_,rfl,rl,rfl,⟨_,SqL.of e7⟩,?_⟩
  refine yav (ybR (xs:=ts.map V.ref)) (fun k acc H'=>H'=H8∧acc=((ts.take k).filter fun a=>decide (pn H8 a≤most)).map V.ref) ⟨rfl,rfl⟩ (fun i acc H' _ h=>h.1 ▸ SqL.of e7) ?_ ?_ ?_
  · rintro k acc H' hk ⟨_,rfl⟩
    have:=List.length_filter_le (fun a=>decide (pn H8 a≤most)) (ts.take k)
    rw [List.length_take] at this
    rw [List.length_map];exact yai (by lia)
  · rintro k acc z H' H'' hk ⟨rfl,rfl⟩ ⟨rfl,ez⟩
    obtain ⟨a,ea,rfl⟩:=zdV ez
    obtain ⟨n,x,hx,_⟩:=hts7 a (List.mem_of_getElem? ea)
    refine ⟨_,rfl,a,_,_,Vn n,rfl,rfl,SqT.of hx,rfl,_,rfl,_,_,rfl,rfl,_,rfl,?_⟩
    rw [zaQ ea,List.filter_append]
    refine ite2 (fun c=>?_) (fun c=>?_)
    · have c1:n≤most:=by have:=of_decide_eq_true c;lia
      refine ⟨_,rfl,rfl,?_⟩
      rw [List.map_append]
      simp [ybY hx,c1]
    · have c1:¬ n≤most:=fun h=>c (decide_eq_true (by lia))
      refine ⟨rfl,?_⟩
      simp [ybY hx,c1]
  rw [List.length_map]
  rintro acc H9 ⟨rfl,rfl⟩ r2 hr2
  rw [List.take_length]
  obtain ⟨us,hus⟩:∃us,us=ts.filter fun a=>decide (pn H9 a≤most):=⟨_,rfl⟩
  rw [←hus]
  have hu1:∀a∈us,za7 p m t H9 a∧pn H9 a≤most:=fun a ha=>by
    rw [hus] at ha
    have:=List.mem_filter.mp ha
    exact ⟨hts7 a this.1,of_decide_eq_true this.2⟩
  have hu0:a1∈us:=by rw [hus];exact List.mem_filter.mpr ⟨ha1,decide_eq_true (by rw [ea7];exact hmost)⟩
  have hul:us.length≤63:=by
    have:=List.length_filter_le (fun a=>decide (pn H9 a≤most)) ts
    rw [←hus] at this
    lia
  clear hus
  have pk:∀ {H H':Hp},Same H H'→∀a,za7 p m t H a→pn H' a=pn H a:=fun s a ⟨n,x,h,_⟩=>by rw [ybY (s _ _ h),ybY h]
  have s9:=yab hr2 (.lst (us.map V.ref))
  have T9:=T7.same s9
  have hP9:=hP7.same s9
  have n2:=hP7.lt hr2
  have e9:upd H9 r2 (.lst (us.map V.ref)) r2=some (.lst (us.map V.ref)):=zab
  have hu9:∀a∈us,za7 p m t (upd H9 r2 (.lst (us.map V.ref))) a∧pn (upd H9 r2 (.lst (us.map V.ref))) a≤most:=fun a ha=>⟨(hu1 a ha).1.same s9,by rw [pk s9 a (hu1 a ha).1];exact (hu1 a ha).2⟩
  have sx9:=sx7.trans (Same.x s9)
  dsimp only [yat]
  generalize upd H9 r2 (.lst (us.map V.ref))=HA at s9 T9 hP9 e9 hu9 sx9 ⊢
  refine ⟨_,rfl,r2,rfl,⟨_,SqL.of e9⟩,?_⟩
  refine yav (ybR (xs:=us.map V.ref)) (fun k acc H'=>H'=HA∧acc=((us.take k).map (pn HA)).map Vn) ⟨rfl,rfl⟩ (fun i acc H' _ h=>h.1 ▸ SqL.of e9) ?_ ?_ ?_
  · rintro k acc H' hk ⟨_,rfl⟩
    rw [List.length_map,List.length_map,List.length_take];exact yai (by lia)
  · rintro k acc z H' H'' hk ⟨rfl,rfl⟩ ⟨rfl,ez⟩
    obtain ⟨a,ea,rfl⟩:=zdV ez
    obtain ⟨⟨n,x,hx,_⟩,_⟩:=hu9 a (List.mem_of_getElem? ea)
    refine ⟨_,rfl,a,_,_,Vn n,rfl,rfl,SqT.of hx,rfl,rfl,?_⟩
    rw [zaQ ea,List.map_append,List.map_append,show [a].map (pn H'')=[n] by rw [List.map_singleton,ybY hx]];rfl
  rw [List.length_map]
  rintro acc HB ⟨rfl,rfl⟩ gl' hgl'
  rw [List.take_length]
  refine ⟨gl',(us.map (pn HB)).map (fun n:Nat=>(n:Int)),rfl,SqL.of (by rw [mapI];exact zab),by rw [List.length_map,List.length_map];exact List.length_pos_of_mem hu0,fun M hM1 hM2=>?_⟩
  obtain ⟨M,hM,rfl⟩:=List.mem_map.mp hM1
  obtain ⟨aM,haM,eM⟩:=List.mem_map.mp hM
  have sB:=yab hgl' (.lst ((us.map (pn HB)).map Vn))
  have TB:=T9.same sB
  have hPB:=hP9.same sB
  have eB:=sB _ _ e9
  have huB:∀a∈us,za7 p m t (upd HB gl' (.lst ((us.map (pn HB)).map Vn))) a∧pn (upd HB gl' (.lst ((us.map (pn HB)).map Vn))) a≤most:=fun a ha=>⟨(hu9 a ha).1.same sB,by rw [pk sB a (hu9 a ha).1];exact (hu9 a ha).2⟩
  have eMB:pn (upd HB gl' (.lst ((us.map (pn HB)).map Vn))) aM=M:=by rw [pk sB aM (hu9 aM haM).1];exact eM
  have sxB:=sx9.trans (Same.x sB)
  dsimp only [yat]
  generalize upd HB gl' (.lst ((us.map (pn HB)).map Vn))=HC at sB TB hPB eB huB eMB sxB ⊢
  change tSeq (tIfS _ _ _) _ _ _ _
  let I2:St→Hp→Prop:=fun σ H'=>Ex2 fun (rr:Addr) (ws:List Addr)=>An7 (Same HC H') (H' rr=some (.lst (ws.map V.ref))) (rr≠pu∧rr≠g) (0<ws.length) (ws.length≤63) (∀a∈ws,za7 p m t H' a∧pn H' a≤most) (σ=[some (.ref pu),some (Vn most),some (Vn way),some (Vn far),some (.ref tb),some (.ref fl),some (Vn few),some (Vn (p^few)),some (.ref rr),some (Vn M),none,none,none,none,none,none])
  refine yaR I2 ?_ ?_
  · rintro σ HE ⟨rr,ws,sE,eE,nrr,hw0,hw1,hws,rfl⟩
    have TE:=TB.same sE
    have hPE:=hPB.same sE
    have sxE:=sxB.trans (Same.x sE)
    refine ⟨_,rfl,_,rfl,_,rfl,rr,_,rfl,.inl (SqL.of eE),?_⟩
    refine ⟨pu,g,ws.length,by rw [List.length_map];rfl,hPE,hw0,by lia,fun wi HF hwi hPF sxF=>?_⟩
    have hwm:ws[wi]∈ws:=List.getElem_mem hwi
    obtain ⟨⟨n,root,hpr,ord,hnq,r0,rq⟩,hmo⟩:=hws _ hwm
    rw [ybY hpr] at hmo
    have npr:=hPE.tup_ne hpr
    have hprF:=sxF _ _ npr.1 npr.2 hpr
    have eF:=sxF _ _ nrr.1 nrr.2 eE
    have TF:=TE.x ap sxF
    have sxF':=sxE.trans sxF
    have hn0:=ord.pos
    refine ⟨rr,_,_,.ref ws[wi],rfl,rfl,SqL.of eF,zaB (by rw [List.getElem?_map,List.getElem?_eq_getElem hwi];rfl),?_⟩
    refine ⟨ws[wi],_,rfl,SqT.of hprF,rfl,_,_,rfl,_,_,rfl,rfl,?_⟩
    refine ⟨szl 0,fun m0 hm0=>?_⟩
    have sG:=yab hm0 (.lst [])
    have hPG:=hPF.same sG
    have nm0:=hPF.lt hm0
    have eG:upd HF m0 (.lst []) m0=some (.lst (([]:List Nat).map Vn)):=zab
    have TG:=TF.same sG
    have sxG:=sxF'.trans (Same.x sG)
    dsimp only [yat]
    generalize upd HF m0 (.lst [])=HG at sG hPG eG TG sxG ⊢
    have hrnd:=Ord.round G r0 rq ord hfew.2 hfew.1
    have hme:1≤m/few:=Nat.div_pos hfewm hfew.1
    have hme2:m/few≤6:=Nat.le_trans (Nat.div_le_self _ _) hm6
    change tSeq (tIfS _ _ _) _ _ _ _
    let I3:St→Hp→Prop:=fun σ H'=>An3 (Pu H' pu g) (zaf pu g HG H') (Ex5 fun (ml:Addr) (ns:List Nat) (s13 s14 s15:Option V)=>An6 (H' ml=some (.lst (ns.map Vn))) (ml≠pu∧ml≠g) (ns.length≤400) (∀x∈ns,x<n) (∀x∈ns,x*p^few%n∈ns) (σ=[some (.ref pu),some (Vn most),some (Vn way),some (Vn far),some (.ref tb),some (.ref fl),some (Vn few),some (Vn (p^few)),some (.ref rr),some (Vn M),some (Vn n),some (Vn root),some (.ref ml),s13,s14,s15]))
    refine yaR I3 ?_ ?_
    · rintro σ HI ⟨hPI,sxI,ml,ns,s13,s14,s15,eI,nml,hnl,hnn,hnc,rfl⟩
      have TI:=TG.x ap sxI
      refine ⟨_,rfl,_,rfl,tb,_,rfl,TI.get yeI,_,rfl,_,rfl,_,rfl,ml,ns.map (fun n:Nat=>(n:Int)),rfl,SqL.of (by rw [mapI];exact eI),by rw [List.length_map];lia,?_,?_⟩
      · intro ks hks hsub
        have:=zbs (τ:=(List.range n).map fun i:Nat=>(i:Int)) hks fun k hk=>by
          obtain ⟨x,hx,rfl⟩:=List.mem_map.mp (hsub k hk)
          exact List.mem_map.mpr ⟨x,List.mem_range.mpr (hnn x hx),rfl⟩
        rw [List.length_map,List.length_range] at this
        lia
      · intro l2 ns' hl2 hasc hmem
        obtain ⟨marks,hmk⟩:∃marks:List Nat,ns'=marks.map fun x:Nat=>(x:Int):=by
          refine ⟨ns'.map Int.toNat,?_⟩
          rw [List.map_map]
          conv=>lhs;rw [←List.map_id ns']
          refine List.map_congr_left fun k hk=>?_
          obtain ⟨x,_,rfl⟩:=List.mem_map.mp ((hmem k).mp hk)
          rfl
        subst hmk
        have hmm:∀x:Nat,x∈marks↔x∈ns:=fun x=>by
          have:=hmem (x:Int)
          constructor
          · intro h
            obtain ⟨y,hy,e⟩:=List.mem_map.mp (this.mp (List.mem_map_of_mem h))
            rw [←Int.ofNat.inj e];exact hy
          · intro h
            obtain ⟨y,hy,e⟩:=List.mem_map.mp (this.mpr (List.mem_map_of_mem h))
            rw [←Int.ofNat.inj e];exact hy
        have hasc2:marks.Pairwise (· < ·):=by
          rw [List.pairwise_map] at hasc
          exact hasc.imp fun h=>by lia
        rw [mapI]
        have s2:=yab hl2 (.lst (marks.map Vn))
        refine ⟨l2,_,rfl,.inl ⟨SqL.of zab,fun mk hmk=>?_⟩⟩
        have s3:=yab hmk (.tup (marks.map Vn))
        refine ⟨szl 4,fun wh hwh=>?_⟩
        have s4':=yab hwh (.tup [.ref fa,Vn few,Vn root,.ref mk])
        refine ⟨szl 2,fun r hr=>?_⟩
        have s5':=yab hr (.tup [.ref tb,.ref wh])
        have hP2':=hPI.same s2
        have hP3':=hP2'.same s3
        have hP4':=hP3'.same s4'
        refine q r tb fa pa la wh mk p m t b few root n marks _ zab ((((TI.same s2).same s3).same s4').same s5') ap ⟨s5' _ _ zab,s5' _ _ (s4' _ _ zab)⟩ (hP3'.lt hwh) (hP2'.lt hmk) (hP4'.lt hr) ⟨hfew.1,hfew.2,r0,rq,ord,hnq,hasc2,fun x hx=>hnn x ((hmm x).mp hx),fun x hx=>(hmm _).mpr (hnc x ((hmm x).mp hx))⟩ hmo (hP4'.same s5') ?_
        exact (sxG.trans sxI).trans (Same.x (((s2.trans s3).trans s4').trans s5'))
    · intro D' _ _ _ hD'
      refine ⟨_,rfl,rfl,_,rfl,?_⟩
      refine ite2 (fun c=>?_) (fun c=>?_)
      · refine ⟨_,rfl,(n:Int),rfl,fun rg hrg=>⟨rg,0,(n:Int),rfl,zab,by lia,by rw [show ((n:Int)-0).toNat=n by lia];exact szl _ (by lia),fun l hl=>?_⟩⟩
        have s1':=yab hrg (.rng 0 (n:Int))
        have e1:L2.intsFrom 0 ((n:Int)-0).toNat=(List.range n).map Vn:=by
          rw [show ((n:Int)-0).toNat=n by lia]
          unfold L2.intsFrom
          refine List.map_congr_left fun i _=>?_
          rw [Int.zero_add]
        rw [e1]
        have s2':=yab hl (.lst ((List.range n).map Vn))
        exact hD' _ _ ⟨(hPG.same s1').same s2',Same.x (s1'.trans s2'),l,List.range n,_,_,_,zab,(hPG.same s1').lt hl,by rw [List.length_range];lia,fun x hx=>List.mem_range.mp hx,fun x _=>List.mem_range.mpr (Nat.mod_lt _ (by lia)),rfl⟩
      · refine ⟨_,rfl,rfl,_,rfl,?_⟩
        refine ite2 (fun c=>?_) (fun c=>?_)
        · refine ⟨_,rfl,_,rfl,pu,g,n,rfl,hPG,by lia,by lia,fun i HJ hi hPJ sxJ=>?_⟩
          refine ⟨_,rfl,_,rfl,i,n,p^few,m/few,rfl,by lia,by lia,hqq,hme,hme2,hrnd,fun r ns HK sK nr er h1 h2 h3 h4 _ _ _=>?_⟩
          exact hD' _ _ ⟨hPJ.same sK,sxJ.trans (Same.x sK),r,ns,_,_,_,er,hPJ.lt nr,by lia,h3,h4,rfl⟩
        · refine ⟨_,rfl,_,_,rfl,rfl,_,rfl,?_⟩
          refine ite2 (fun c=>?_) (fun c=>?_)
          · refine ⟨_,rfl,_,rfl,pu,g,n,rfl,hPG,by lia,by lia,fun first HJ hfi hPJ sxJ=>?_⟩
            refine ⟨_,rfl,_,rfl,pu,g,n,rfl,hPJ,by lia,by lia,fun many HK hma hPK sxK=>?_⟩
            refine ⟨_,_,rfl,?_⟩
            refine ⟨_,rfl,many,rfl,by lia,by lia,?_⟩
            have eK:=sxK _ _ nm0.1 nm0.2 (sxJ _ _ nm0.1 nm0.2 eG)
            let I4:Nat→St→Hp→Prop:=fun k σ H'=>An3 (Pu H' pu g) (zaf pu g HG H') (Ex3 fun (ml:Addr) (ns:List Nat) (s15:Option V)=>An6 (H' ml=some (.lst (ns.map Vn))) (ml≠pu∧ml≠g) (ns.length≤6*k) (∀x∈ns,x<n) (∀x∈ns,x*p^few%n∈ns) (σ=[some (.ref pu),some (Vn most),some (Vn way),some (Vn far),some (.ref tb),some (.ref fl),some (Vn few),some (Vn (p^few)),some (.ref rr),some (Vn M),some (Vn n),some (Vn root),some (.ref ml),some (Vn first),some (Vn many),s15]))
            refine yaB (n:=many) I4
              ⟨hPK,sxJ.trans sxK,m0,[],_,eK,nm0,by decide,fun x hx=>absurd hx (by simp),fun x hx=>absurd hx (by simp),rfl⟩ ?_ ?_
            · rintro k σ HL hk ⟨hPL,sxL,ml,ns,s15,eL,nml,hnl,hnn,hnc,rfl⟩
              have body:∀HM,Pu HM pu g→zaf pu g HL HM→∀Q:V→Hp→Prop,(∀l (ns':List Nat) H',Pu H' pu g→zaf pu g HG H'→H' l=some (.lst (ns'.map Vn))→(l≠pu∧l≠g)→ns'.length≤6*(k+1)→(∀x∈ns',x<n)→(∀x∈ns',x*p^few%n∈ns')→Q (.ref l) H')→
                  tOp rCat (tVar 12) (zgD zcb [] E0 (zcG (tOp (rI0 fun i j=>V.int (i+j)) (tVar 13) (tVar 15)) (zcG (tVar 10) (zcG (tVar 7) tNil)))) [some (.ref pu),some (Vn most),some (Vn way),some (Vn far),some (.ref tb),some (.ref fl),some (Vn few),some (Vn (p^few)),some (.ref rr),some (Vn M),some (Vn n),some (Vn root),some (.ref ml),some (Vn first),some (Vn many),some (.int (0+(k:Int)))] HM Q:=by
                intro HM hPM sxM Q hQ
                have eM:=sxM _ _ nml.1 nml.2 eL
                refine ⟨_,rfl,_,rfl,_,rfl,_,_,rfl,rfl,_,rfl,_,rfl,first+k,n,p^few,m/few,?_,by lia,by lia,hqq,hme,hme2,hrnd,fun r rs HN sN nr er h1 h2 h3 h4 _ _ _=>?_⟩
                · show [V.int ((first:Int)+(0+(k:Int))),Vn n,Vn (p^few)]=[Vn (first+k),Vn n,Vn (p^few)]
                  rw [show (first:Int)+(0+(k:Int))=((first+k:Nat):Int) by lia]
                refine ⟨ml,r,_,_,rfl,rfl,sN _ _ eM,er,by rw [List.length_map,List.length_map];exact szl _ (by lia),fun l hl=>?_⟩
                rw [←List.map_append]
                have sO:=yab hl (.lst ((ns++rs).map Vn))
                refine hQ l (ns++rs) _ ((hPM.same sN).same sO) ((sxL.trans sxM).trans (Same.x (sN.trans sO))) zab ((hPM.same sN).lt hl) (by rw [List.length_append];lia) (fun x hx=>?_) (fun x hx=>?_)
                · rcases List.mem_append.mp hx with h|h
                  · exact hnn x h
                  · exact h3 x h
                · rcases List.mem_append.mp hx with h|h
                  · exact List.mem_append_left _ (hnc x h)
                  · exact List.mem_append_right _ (h4 x h)
              refine ⟨_,rfl,_,_,rfl,rfl,_,rfl,?_⟩
              refine ite2 (fun c=>?_) (fun c=>?_)
              · refine ite2 (fun _=>?_) (fun h=>absurd rfl h)
                exact body HL hPL zaf.refl _ fun l ns' H' a1 a2 a3 a4 a5 a6 a7=>⟨a1,a2,l,ns',_,a3,a4,a5,a6,a7,rfl⟩
              · refine ⟨_,rfl,pu,g,3,rfl,hPL,by lia,by lia,fun v HM hv hPM sxM=>?_⟩
                refine ⟨rfl,_,rfl,?_⟩
                refine ite2 (fun _=>?_) (fun _=>?_)
                · exact body HM hPM sxM _ fun l ns' H' a1 a2 a3 a4 a5 a6 a7=>⟨a1,a2,l,ns',_,a3,a4,a5,a6,a7,rfl⟩
                · exact ⟨hPM,sxL.trans sxM,ml,ns,_,sxM _ _ nml.1 nml.2 eL,nml,by lia,hnn,hnc,rfl⟩
            · rintro σ HL ⟨hPL,sxL,ml,ns,s15,eL,nml,hnl,hnn,hnc,rfl⟩
              exact hD' _ _ ⟨hPL,sxL,ml,ns,_,_,_,eL,nml,by lia,hnn,hnc,rfl⟩
          · exact hD' _ _ ⟨hPG,zaf.refl,m0,[],_,_,_,eG,nm0,by decide,fun x hx=>absurd hx (by simp),fun x hx=>absurd hx (by simp),rfl⟩
  · intro D' _ _ _ hD'
    refine ⟨_,rfl,_,_,rfl,rfl,_,rfl,?_⟩
    refine ite2 (fun c=>?_) (fun c=>?_)
    · refine ⟨_,rfl,r2,rfl,⟨_,SqL.of eB⟩,?_⟩
      refine yav (ybR (xs:=us.map V.ref)) (fun k acc H'=>H'=HC∧acc=((us.take k).filter fun a=>decide (pn HC a=M)).map V.ref) ⟨rfl,rfl⟩ (fun i acc H' _ h=>h.1 ▸ SqL.of eB) ?_ ?_ ?_
      · rintro k acc H' hk ⟨_,rfl⟩
        have:=List.length_filter_le (fun a=>decide (pn HC a=M)) (us.take k)
        rw [List.length_take] at this
        rw [List.length_map];exact yai (by lia)
      · rintro k acc z H' H'' hk ⟨rfl,rfl⟩ ⟨rfl,ez⟩
        obtain ⟨a,ea,rfl⟩:=zdV ez
        obtain ⟨⟨n,x,hx,_⟩,_⟩:=huB a (List.mem_of_getElem? ea)
        refine ⟨_,rfl,a,_,_,Vn n,rfl,rfl,SqT.of hx,rfl,_,rfl,rfl,_,rfl,?_⟩
        have ed:decide (Vn n=Vn M)=decide (n=M):=decide_eq_decide.mpr ⟨fun e=>Int.ofNat.inj (V.int.inj e),fun e=>by rw [e]⟩
        rw [zaQ ea,List.filter_append,ed]
        refine ite2 (fun c=>?_) (fun c=>?_)
        · have c1:n=M:=of_decide_eq_true c
          refine ⟨_,rfl,rfl,?_⟩
          rw [List.map_append]
          simp [ybY hx,c1]
        · have c1:¬ n=M:=fun h=>c (decide_eq_true h)
          refine ⟨rfl,?_⟩
          simp [ybY hx,c1]
      rw [List.length_map]
      rintro acc HD ⟨rfl,rfl⟩ r3 hr3
      rw [List.take_length]
      have s3:=yab hr3 (.lst ((us.filter fun a=>decide (pn HD a=M)).map V.ref))
      refine hD' _ _ ⟨r3,us.filter fun a=>decide (pn HD a=M),s3,zab,hPB.lt hr3,?_,?_,?_,rfl⟩
      · exact List.length_pos_of_mem (List.mem_filter.mpr ⟨haM,decide_eq_true eMB⟩)
      · exact Nat.le_trans (List.length_filter_le _ _) hul
      · intro a ha
        have h1:=huB a (List.mem_filter.mp ha).1
        exact ⟨h1.1.same s3,by rw [pk s3 a h1.1];exact h1.2⟩
    · exact hD' _ _ ⟨r2,us,Same.refl _,eB,n2,List.length_pos_of_mem hu0,hul,huB,rfl⟩
end
end My
end
section
namespace L2
open PySem PyProof.Rows
theorem ygh:OpR X (compareOp .IsNot) (fun x y H Q=>Ex2 fun (a b:Bool)=>x = .bl a∧y = .bl b∧Q (.bl (!(a==b))) H):=by
  intro pins s σ H x y v u Q I rx ry h
  obtain ⟨a,b,rfl,rfl,q⟩:=h
  cases rx;cases ry
  exact wpAny_pure ⟨.bl _,H,I,by cases a <;> cases b <;> rfl,q⟩
end L2
namespace My
open PySem L2 Dg
local macro_rules | `(tactic| walk_at "rd") => `(tactic| repeat (first | refine ⟨_, rfl, ?_⟩ | refine ⟨_, _, rfl, rfl, ?_⟩))
section
variable {P:Program} {w:World} {mg:Str→Option Value} {base:Heap} {f:Addr} {fd:FuncData}
theorem zdE (x:Nat) (marks:List Nat):inV (Vn x) (marks.map Vn)=decide (x∈marks):=by
  unfold inV
  rw [List.any_map]
  rw [Bool.eq_iff_iff,List.any_eq_true,decide_eq_true_eq]
  constructor
  · rintro ⟨y,hy,h⟩
    have:((y:Int)==(x:Int))=true:=h
    rw [←Int.ofNat.inj (eq_of_beq this)];exact hy
  · intro h
    exact ⟨x,h,beq_self_eq_true ((x:Nat):Int)⟩
theorem ycR (marks:List Nat):(marks.map Vn).all zde=true:=by
  rw [List.all_eq_true]
  intro v hv
  obtain ⟨x,_,rfl⟩:=List.mem_map.mp hv
  rfl
end
end My
end
section
namespace My
open PySem L2 Dg
local macro_rules | `(tactic| walk_at "rd") => `(tactic| repeat (first | refine ⟨_, rfl, ?_⟩ | refine ⟨_, _, rfl, rfl, ?_⟩))
structure Rg (p m t:Nat):Prop where
  hp:2≤p
  hm:1≤m
  hq:p^m≤64
  top:t<p^m
theorem ygv {p m t:Nat} (h:(p,m)∈menu) (ht:t<p^m):Rg p m t:=⟨(zaE h).1,(zaE h).2.1,(zaE h).2.2,ht⟩
section
variable {p m t:Nat} (G:Rg p m t)
include G
theorem zfX {x k:Nat} (hx:x<p^m):pw p m t x k=mul p m t (if k%2=1 then x else 1) (pw p m t (mul p m t x x) (k/2)):=by
  have e2:pw p m t x 2=mul p m t x x:=by show mul p m t (mul p m t 1 x) x=_;rw [ybi G.hp G.hm hx]
  by_cases c:k%2=1
  · rw [if_pos c,←e2,←ycr G.hp G.hm]
    rw [show pw p m t x k=pw p m t x (1+2*(k/2)) by congr 1;omega,zb8 G.hp G.hm,zdt G.hp G.hm hx]
  · rw [if_neg c,←e2,←ycr G.hp G.hm,ybi G.hp G.hm (zcv G.hp G.hm _ _)]
    congr 1;omega
end
def ycT (p m t:Nat):Bool:=(List.range (p^m-1)).all fun i=>decide (pw p m t (1+i) (p^m-1)=1)
theorem zfF {p m t:Nat} (mem:(p,m)∈menu) (ht:t<p^m):ycT p m t=true↔Good p m t:=by
  have R:=ygv mem ht
  have hp:=R.hp
  have hm:=R.hm
  have hQ:=ya9 hp hm
  constructor
  · intro h
    refine ⟨mem,ht,.inr fun x y hx hxq _ hy hyq e=>?_⟩
    have h1:=of_decide_eq_true (List.all_eq_true.mp h (x-1) (List.mem_range.mpr (by omega)))
    rw [show 1+(x-1)=x by omega,show p^m-1=(p^m-2)+1 by omega] at h1
    have h2:mul p m t (pw p m t x (p^m-2)) x=1:=h1
    have h3:mul p m t (mul p m t (pw p m t x (p^m-2)) x) y=y:=by rw [h2,ybi hp hm hyq]
    rw [mul_assoc hp hm,e,mul_zero hp hm] at h3
    omega
  · intro G
    unfold ycT
    rw [List.all_eq_true]
    intro i hi
    have hi:=List.mem_range.mp hi
    exact decide_eq_true (G.fermat (by omega) (by omega))
theorem zcM:(menu.all fun c=>(List.range c.1).all fun k=>decide (k<2)||decide (c.1%k≠0))=true:=by decide +kernel
theorem Good.prime {p m t low:Nat} (G:Good p m t) (h2:2≤low) (h:low<p):p%low≠0:=by
  have h1:=List.all_eq_true.mp zcM _ G.mem
  have h3:=List.all_eq_true.mp h1 low (List.mem_range.mpr h)
  rw [Bool.or_eq_true] at h3
  rcases h3 with h3|h3
  · have:=of_decide_eq_true h3;omega
  · exact of_decide_eq_true h3
section
variable {P:Program} {w:World} {mg:Str→Option Value} {base:Heap} {f:Addr} {fd:FuncData}
inductive zbV (K:PySem.W.Frag) (vs:List V) (H:Hp) (Q:VK) (E:XK):Prop
  | mk (a:Addr) (p m t x n:Nat) (c1:vs=[.ref a,Vn x,Vn n]) (c2:Fld K H a p m t) (c3:Rg p m t) (c4:x<p^m) (c5:Q (Vn (pw p m t x n)) H):zbV K vs H Q E
theorem yep (B:Bl mg) (h_times:Has P w K mg base 3 "times" ["field","one","other"] (zcc K)) (F:Fun K "times_itself" "times_itself" za6 f fd):FnOk P w K mg base CX0 4 f fd ["field","one","many"] (zbV K):=by
  refine F.ok zax (fun vs H Q E h=>?_) (fun cdv A outer s H vs Q E hr h=>?_)
  · obtain ⟨a,p,m,t,x,n,rfl,_⟩:=h;rfl
  obtain ⟨a,p,m,t,x,n,rfl,hF,G,hx,q⟩:=h
  have hp:=G.hp
  have hm:=G.hm
  refine ⟨_,((3<|>zax.nd<|>zaa)<=<(@zaG _ _ _ _ _ _ PassesOwn.never (ybM∪(pv 2)∪zaa) (((zaZ∪(yan|||(pv 2)|||zaa)∪zaa)*>((~~~(3<|>zax.nd<|>(h_times<$>((pv 0)>=>(pv 3)>=>(pv 1)>=>yaa)))),yae))<=<(@zbp _ _ 2 _ _ _ _ _ _ zax.nd rfl (Or.inl rfl) zaa zcz (by trivial))<=<(~~~((ybM∪(pv 2)∪zaa)*>((~~~(1<|>zax.nd<|>(h_times<$>((pv 0)>=>(pv 1)>=>(pv 1)>=>yaa)))),yae)))))<=<(~~~((pv 3)⁻¹))),?_⟩
  try dsimp only [cxOf]
  refine zaI (fun σ H'=>H'=H∧∃(o k pr:Nat),σ=[some (.ref a),some (Vn o),some (Vn k),some (Vn pr)]∧o<p^m∧pr<p^m∧mul p m t pr (pw p m t o k)=pw p m t x n)
    (fun σ _=>mI σ 2) ⟨rfl,x,n,1,rfl,hx,ya9 hp hm,ybi hp hm (zcv hp hm _ _)⟩ ?_
  rintro σ H' ⟨rfl,o,k,pr,rfl,ho,hpr,he⟩
  walk_at "rd"
  refine ite2 (fun c=>?_) (fun c=>?_)
  · have c':0<k:=by have:=of_decide_eq_true c;omega
    refine ⟨fun σ' H''=>H''=H'∧∃(o' pr':Nat),σ'=[some (.ref a),some (Vn o'),some (Vn (k/2)),some (Vn pr')]∧o'<p^m∧pr'<p^m∧mul p m t pr' (pw p m t o' (k/2))=pw p m t x n,?_,?_⟩
    · rintro σ' H'' ⟨rfl,o',pr',rfl,b1,b2,b3⟩
      exact ⟨_,by show k/2<k;exact Nat.div_lt_self c' (by omega),rfl,rfl,o',k/2,pr',rfl,b1,b2,b3⟩
    refine yaR (fun σ' H''=>H''=H'∧∃pr':Nat,σ'=[some (.ref a),some (Vn o),some (Vn k),some (Vn pr')]∧pr'<p^m∧mul p m t pr' (pw p m t (mul p m t o o) (k/2))=pw p m t x n) ?_ ?_
    · rintro σ' H'' ⟨rfl,pr',rfl,hpr',he'⟩
      walk_at "rd"
      refine ⟨⟨by show (0:Int)<2;decide,by show (2:Int)<2^64;decide⟩,?_⟩
      walk_at "rd"
      refine ite2 (fun c2=>?_) (fun c2=>?_)
      · refine ⟨_,rfl,_,rfl,_,rfl,a,p,m,t,o,o,rfl,hF,hp,hm,G.hq,G.top,ho,ho,fun r br hr=>?_⟩
        cases zdp hp hm br hr
        exact ⟨rfl,_,pr',rfl,zbE hp hm _ _,hpr',he'⟩
      · have k0:k/2=0:=by
          have:=of_decide_eq_false (Bool.eq_false_iff.mpr c2)
          have e:((k/2:Nat):Int)=(k:Int)/2:=rfl
          omega
        rw [k0] at he'
        refine ⟨rfl,o,pr',rfl,ho,hpr',?_⟩
        rw [k0];exact he'
    · intro D' _ _ _ hD'
      refine ⟨_,rfl,_,_,rfl,rfl,by show (0:Int)<2;decide,rfl,_,rfl,?_⟩
      have ed:decide (V.int ((k:Int)%2)=V.int 1)=decide (k%2=1):=decide_eq_decide.mpr ⟨fun e=>by injection e with e;omega,fun e=>by congr 1;omega⟩
      rw [ed]
      rw [zfX G ho,←mul_assoc hp hm] at he
      refine ite2 (fun c2=>?_) (fun c2=>?_)
      · have c3:k%2=1:=of_decide_eq_true c2
        rw [if_pos c3] at he
        refine ⟨_,rfl,_,rfl,_,rfl,a,p,m,t,pr,o,rfl,hF,hp,hm,G.hq,G.top,hpr,ho,fun r br hr=>?_⟩
        cases zdp hp hm br hr
        exact hD' _ _ ⟨rfl,_,rfl,zbE hp hm _ _,he⟩
      · have c3:¬ k%2=1:=fun h=>c2 (decide_eq_true h)
        rw [if_neg c3,mul_one hp hm hpr] at he
        exact hD' _ _ ⟨rfl,_,rfl,hpr,he⟩
  · have c':k=0:=by have:=of_decide_eq_false (Bool.eq_false_iff.mpr c);omega
    subst c'
    refine ⟨_,rfl,?_⟩
    have e:pr=pw p m t x n:=by rw [←he];exact (mul_one hp hm hpr).symm
    rw [e]
    exact q
inductive zb0 (K:PySem.W.Frag) (vs:List V) (H:Hp) (Q:VK) (E:XK):Prop
  | mk (a:Addr) (p m t:Nat) (c1:vs=[.ref a]) (c2:Fld K H a p m t) (c3:Rg p m t) (c4:Q (.bl (ycT p m t)) H):zb0 K vs H Q E
inductive ycc (K:PySem.W.Frag) (vs:List V) (H:Hp) (Q:VK) (E:XK):Prop
  | mk (a:Addr) (p m t:Nat) (c1:vs=[.ref a]) (c2:Fld K H a p m t) (c3:2≤p) (c4:1≤m) (c5:p^m≤64) (c6:t<p^m) (c7:∀(b:Bool) H',Same H H'→(b=true↔∀x y,0<x→x<p^m→x<p^(m/2+1)→0<y→y<p^m→mul p m t x y≠0)→Q (.bl b) H'):ycc K vs H Q E
theorem yfC (B:Bl mg) (h__law_raised:Has P w K mg base 1 "_law_raised" ["_law_one","_law_many"] yag) (h__law_product:Has P w K mg base 2 "_law_product" ["_law_field_here","_law_one","_law_other"] (ybB K)) (F:Fun K "_law_is_good" "_law_is_good" yaM f fd):FnOk P w K mg base CX0 3 f fd ["_law_field_here"] (ycc K):=by
  refine F.ok zar (fun vs H Q E h=>?_) (fun cdv A outer s H vs Q E hr h=>?_)
  · obtain ⟨a,p,m,t,rfl,_⟩:=h;rfl
  obtain ⟨a,p,m,t,rfl,hF,hp,hm,hpm,ht,q⟩:=h
  have hp2:=p_le hp hm hpm
  have hm6:=m_le hp hpm
  have hpos:0<p^m:=Nat.pow_pos (by omega)
  refine ⟨_,(((pv 0)≈((1&&&zar.nd)∩((2&&&zar.nd)∩((3&&&zar.nd)∩yaA))))<=<(4<|>zar.nd<|>(h__law_raised<$>((pv 1)>=>(pv 2)>=>yaa)))<=<((@zaV _ _ _ _ _ _ _ rfl (B "range" (by decide)) (zaa>=>((zeG rfl)>>>("min",zdO,((pv 4)>=>(h__law_raised<$>((pv 1)>=>(yal|||(ydy|||(pv 2)|||zaa)|||zaa)>=>yaa))>=>yaa)))>=>yaa) (by rfl) (by rfl))<&>((5&&&zar.nd),(~~~((@zau _ _ _ _ (@yar _ _ _ ((ybC rfl)>>>("all",PyProof.Rows.boot_all,((["_law_other"]⊆(["_law_field_here","_law_one"],[0,5],["_law_field_here","_law_p","_law_m","_law_top","_law_many","_law_one"],yaM,(@zaV _ _ _ _ _ _ _ rfl (B "range" (by decide)) (zaa>=>(pv 4)>=>yaa) (by rfl) (by rfl)),(0⊇["_law_other","_law_field_here","_law_one"]),zaP,(@ybS _ _ _ _ _ _ _ _ ybM (h__law_product<$>((pv 1)>=>(pv 2)>=>(pv 0)>=>yaa)) zaa (ydA _))))>=>yaa))) (by intro _;rfl)))*>((~~~(yaF⁻¹)),yae)))))<=<(~~~(yaF⁻¹))),?_⟩
  try dsimp only [cxOf]
  refine ⟨_,rfl,a,_,rfl,hF,rfl,_,_,rfl,_,_,rfl,_,_,rfl,rfl,?_⟩
  refine ⟨_,rfl,_,rfl,p,m,rfl,hp2,by omega,?_⟩
  refine ⟨_,rfl,_,rfl,_,rfl,_,_,rfl,rfl,⟨by show (0:Int)<2;decide,by show (2:Int)<2^64;decide⟩,?_⟩
  refine ⟨_,_,rfl,rfl,?_⟩
  refine ⟨p,m/2+1,rfl,hp2,by omega,?_⟩
  refine ⟨_,_,rfl,?_⟩
  generalize hj:(if (((p^(m/2+1):Nat):Int)<((p^m:Nat):Int)) then ((p^(m/2+1):Nat):Int) else ((p^m:Nat):Int))=j
  have hj2:0≤j∧j≤((p^m:Nat):Int)∧(∀x:Nat,x<p^m→x<p^(m/2+1)→(x:Int)<j)∧∀x:Nat,(x:Int)<j→x<p^m∧x<p^(m/2+1):=by
    rw [←hj];split
    · exact ⟨by omega,by omega,fun x h1 h2=>by omega,fun x h=>by omega⟩
    · exact ⟨by omega,by omega,fun x h1 h2=>by omega,fun x h=>by omega⟩
  refine ⟨1,j,rfl,⟨by omega,by omega,by omega,by omega⟩,?_⟩
  refine yaB (fun i σ H'=>Same H H'∧(∀x y,0<x→x<1+i→0<y→y<p^m→mul p m t x y≠0)∧∃s,σ=[some (.ref a),some (Vn p),some (Vn m),some (Vn t),some (Vn (p^m)),s]) ⟨Same.refl _,fun x y h1 h2=>by omega,none,rfl⟩ ?_ ?_
  · rintro i σ H' hi ⟨sm,hno,s,rfl⟩
    refine ⟨_,rfl,1,((p^m:Nat):Int),rfl,⟨by omega,by omega,by omega,by omega⟩,?_⟩
    refine yav zbB (fun k acc H1=>Same H H1∧acc=((List.range k).map fun j=>decide (0<mul p m t (1+i) (1+j))).map V.bl) ⟨sm,rfl⟩ (fun _ _ _ _ _=>trivial) ?_ ?_ ?_
    · rintro k acc H1 hk ⟨_,rfl⟩
      rw [List.length_map,List.length_map,List.length_range];exact Nat.lt_of_le_of_lt (show k≤1000 by omega) (yai (Nat.le_refl _))
    · rintro k acc x H1 H2 hk ⟨sm1,rfl⟩ ⟨rfl,rfl⟩
      refine ⟨_,rfl,_,rfl,_,rfl,a,p,m,t,1+i,1+k,rfl,Same.tup sm1 hF,hp,hm,hpm,ht,by omega,by omega,fun r H3 s3 br hr=>?_⟩
      have e:=zdp hp hm br hr
      subst e
      refine ⟨_,_,rfl,rfl,sm1.trans s3,?_⟩
      rw [List.range_succ,List.map_append,List.map_append]
      refine congrArg (_++[V.bl ·]) ?_
      show decide ((0:Int)<((mul p m t (1+i) (1+k):Nat):Int))=decide (0<mul p m t (1+i) (1+k))
      exact decide_eq_decide.mpr (by omega)
    · rintro acc H1 ⟨sm1,rfl⟩ D hD
      refine ⟨D,_,rfl,SqL.of zab,_,rfl,?_⟩
      refine ite2 (fun c=>?_) (fun c=>?_)
      · refine q _ _ (sm1.trans (yab hD _)) ⟨fun h=>(by cases h),fun hz=>?_⟩
        have c2:((List.range (((p^m:Nat):Int)-1).toNat).map fun j=>decide (0<mul p m t (1+i) (1+j))).all id=true:=by
          rw [List.all_eq_true]
          intro b hb
          obtain ⟨k,hk,rfl⟩:=List.mem_map.mp hb
          have hk:=List.mem_range.mp hk
          have h9:=hj2.2.2.2 (1+i) (by omega)
          exact decide_eq_true (Nat.pos_of_ne_zero (hz (1+i) (1+k) (by omega) h9.1 h9.2 (by omega) (by omega)))
        have c3:(!((List.range (((p^m:Nat):Int)-1).toNat).map fun j=>decide (0<mul p m t (1+i) (1+j))).all id)=true:=c
        rw [c2] at c3
        exact absurd c3 (by decide)
      · refine ⟨sm1.trans (yab hD _),fun x y h1 h2 h3 h4=>?_,_,rfl⟩
        by_cases hx:x<1+i
        · exact hno x y h1 hx h3 h4
        · have c2:((List.range (((p^m:Nat):Int)-1).toNat).map fun j=>decide (0<mul p m t (1+i) (1+j))).all id=true:=zhf c
          rw [List.all_eq_true] at c2
          have c3:=c2 (decide (0<mul p m t (1+i) (1+(y-1)))) (List.mem_map.mpr ⟨y-1,List.mem_range.mpr (by omega),rfl⟩)
          have c4:0<mul p m t (1+i) (1+(y-1)):=of_decide_eq_true c3
          rw [show 1+i=x by omega,show 1+(y-1)=y by omega] at c4
          omega
  · rintro σ H' ⟨sm,hno,s,rfl⟩
    refine q _ _ sm ⟨fun _ x y h1 h2 h3 h4 h5=>hno x y h1 ?_ h4 h5,fun _=>rfl⟩
    have:=hj2.2.2.1 x h2 h3
    omega
end
theorem zfQ {K:PySem.W.Frag} (h:yaU K H z "int"):∃i,z = .int i:=by
  rcases h with h | ⟨e,_⟩
  · cases z with
    | int i=>exact ⟨i,rfl⟩
    | ref a=>rcases h with ⟨e,_⟩ | ⟨e,_⟩ <;> exact absurd e (by decide)
    | non=>exact absurd (show "int" = "NoneType" from h) (by decide)
    | bl b=>exact absurd (show "int" = "bool" from h) (by decide)
    | str b=>exact absurd (show "int" = "str" from h) (by decide)
    | _=>exact False.elim h
  · exact absurd e (by decide)
theorem zfB {K:PySem.W.Frag} (e:Same H H') (h:SqL K H a xs):SqL K H' a xs:=by
  rcases h with (h | ⟨o,h⟩)|h
  · exact .inl (.inl (e _ _ h))
  · exact .inl (.inr ⟨o,e _ _ h⟩)
  · exact .inr h
theorem yey {K:PySem.W.Frag} {T:String} (s:Same H H') (h:yfn K H x T):yfn K H' x T:=by
  cases x with
  | ref a =>
    rcases h with ⟨e,xs,h⟩ | ⟨e,xs,h⟩
    · exact .inl ⟨e,xs,zfB s h⟩
    · exact .inr ⟨e,xs,Same.tup s h⟩
  | _=>exact h
theorem zaL {K:PySem.W.Frag} {T:String} (s:Same H H') (h:yaU K H x T):yaU K H' x T:=by
  rcases h with h | ⟨e,a,kvs,ea,h⟩
  · exact .inl (yey s h)
  · exact .inr ⟨e,a,kvs,ea,s _ _ h⟩
def Kd (K:PySem.W.Frag) (H:Hp) (e:V):Prop:=∃T,yaU K H e T
theorem Kd.same {K:PySem.W.Frag} (s:Same H H') (h:Kd K H x):Kd K H' x:=by
  obtain ⟨T,h⟩:=h
  exact ⟨T,zaL s h⟩
theorem zgx {K:PySem.W.Frag} (e:zaf pu g H H') (n:a≠pu∧a≠g) (h:SqL K H a xs):SqL K H' a xs:=by
  rcases h with (h | ⟨o,h⟩)|h
  · exact .inl (.inl (e _ _ n.1 n.2 h))
  · exact .inl (.inr ⟨o,e _ _ n.1 n.2 h⟩)
  · exact .inr h
theorem ze9 {K:PySem.W.Frag} {pu g a:Addr} (e:zaf pu g H H') (n:a≠pu∧a≠g) (h:SqT K H a xs):SqT K H' a xs:=by
  rcases h with (h | ⟨o,h⟩)|h
  · exact .inl (.inl (e _ _ n.1 n.2 h))
  · exact .inl (.inr ⟨o,e _ _ n.1 n.2 h⟩)
  · exact .inr h
theorem yfS {K:PySem.W.Frag} {lo hi:Option Int} (hP:Pu H pu g) (n:a≠pu∧a≠g) (h:SqT K H a xs) (q:∀(r:Addr) (ys:List V) H',Same H H'→SqT K H' r ys→(r≠pu∧r≠g)→ys.length≤xs.length→(∀e∈ys,e∈xs)→Q (.ref r) H'):rSlA K (.ref a) lo hi H Q:=by
  have hs:∀e∈cutV xs lo hi,e∈xs:=fun e he=>by
    unfold cutV at he
    exact List.mem_of_mem_drop (List.mem_of_mem_take he)
  refine ⟨a,_,rfl,h,fun e=>?_,fun l hl=>?_⟩
  · exact q a xs H (Same.refl _) h n (Nat.le_refl _) (fun _ h=>h)
  · exact q l _ _ (yab hl _) (SqT.of zab) (hP.lt hl) (zaX _ _ _) hs
theorem yeg {K:PySem.W.Frag} (hP:Pu H pu g) (na:a≠pu∧a≠g) (nb:b≠pu∧b≠g) (ha:SqT K H a xs) (hb:SqT K H b ys) (hl:xs.length+ys.length≤1000) (q:∀(r:Addr) H',Same H H'→SqT K H' r (xs++ys)→(r≠pu∧r≠g)→Q (.ref r) H'):zfz K (.ref a) (.ref b) H Q:=by
  refine ⟨a,b,xs,ys,rfl,rfl,ha,hb,szl _ (by omega),fun e=>?_,fun _ e=>?_,fun _ _ p hp=>q p _ (yab hp _) (SqT.of zab) (hP.lt hp)⟩
  · subst e;exact q b H (Same.refl _) hb nb
  · subst e;exact q a H (Same.refl _) (by rw [List.append_nil];exact ha) na
def apV (pu g:Addr) (x:V):Prop:=∀a,x = .ref a→a≠pu∧a≠g
theorem zc6 {K:PySem.W.Frag} {T:String} (s:zaf pu g H H') (n:apV pu g x) (h:yaU K H x T):yaU K H' x T:=by
  rcases h with h | ⟨e,a,kvs,rfl,h⟩
  · cases x with
    | ref a =>
      rcases h with ⟨e,xs,h⟩ | ⟨e,xs,h⟩
      · exact .inl (.inl ⟨e,xs,zgx s (n a rfl) h⟩)
      · exact .inl (.inr ⟨e,xs,ze9 s (n a rfl) h⟩)
    | _=>exact .inl h
  · exact .inr ⟨e,a,kvs,rfl,s _ _ (n a rfl).1 (n a rfl).2 h⟩
def KdX (K:PySem.W.Frag) (H:Hp) (pu g:Addr) (e:V):Prop:=(∃T,yaU K H e T)∧apV pu g e
theorem KdX.x {K:PySem.W.Frag} (h:KdX K H pu g e) (s:zaf pu g H H'):KdX K H' pu g e:=by
  obtain ⟨⟨T,h⟩,n⟩:=h
  exact ⟨⟨T,zc6 s n h⟩,n⟩
noncomputable def ThX (K:PySem.W.Frag) (H:Hp) (pu g:Addr) (x:V):Prop:=(∃T,yaU K H x T∧T≠"tuple"∧apV pu g x)∨∃a xs,x = .ref a∧SqT K H a xs∧(a≠pu∧a≠g)∧xs.length≤200∧∀e∈xs,KdX K H pu g e
theorem ThX.x {K:PySem.W.Frag} (h:ThX K H pu g e) (s:zaf pu g H H'):ThX K H' pu g e:=by
  rcases h with ⟨T,h,hT,n⟩ | ⟨a,xs,rfl,h,n,hl,hk⟩
  · exact .inl ⟨T,zc6 s n h,hT,n⟩
  · exact .inr ⟨a,xs,rfl,ze9 s n h,n,hl,fun e he=>(hk e he).x s⟩
theorem ThX.kd {K:PySem.W.Frag} (h:ThX K H pu g e):KdX K H pu g e:=by
  rcases h with ⟨T,h,hT,n⟩ | ⟨a,xs,rfl,h,n,hl,hk⟩
  · exact ⟨⟨T,h⟩,n⟩
  · exact ⟨⟨"tuple",.inl (.inr ⟨rfl,xs,h⟩)⟩,fun b e=>by cases e;exact n⟩
theorem zbj (n:a≠pu∧a≠g):apV pu g (.ref a):=fun b e=>by cases e;exact n
theorem yao {K:PySem.W.Frag} (i:Int):KdX K H pu g (.int i):=⟨⟨"int",.inl rfl⟩,fun _ e=>nomatch e⟩
theorem zfG {K:PySem.W.Frag} {T:String} (h:yfn K H x T) (hT:T≠"tuple") (n:apV pu g x):ThX K H pu g x:=.inl ⟨T,.inl h,hT,n⟩
theorem ybU {K:PySem.W.Frag} (h:SqT K H a xs) (n:a≠pu∧a≠g) (hl:xs.length≤200) (hk:∀e∈xs,KdX K H pu g e):ThX K H pu g (.ref a):=.inr ⟨a,xs,rfl,h,n,hl,hk⟩
theorem zdR {K:PySem.W.Frag} (row:List Nat):∀e∈row.map Vn,KdX K H pu g e:=fun e he=>by
  obtain ⟨y,_,rfl⟩:=List.mem_map.mp he
  exact yao _
def isI:V→Bool
  | .int _=>true
  | _=>false
theorem yby {K:PySem.W.Frag} {T:String} (h:yaU K H z T):(T=="int")=isI z:=by
  by_cases c:T = "int"
  · subst c
    obtain ⟨i,rfl⟩:=zfQ h
    rfl
  · rw [show (T=="int")=false from by simpa using c]
    cases z with
    | int i =>
      rcases h with h | ⟨_,a,_,e,_⟩
      · exact absurd h c
      · cases e
    | _=>rfl
noncomputable def Res (K:PySem.W.Frag) (H:Hp) (fn:List V→Bool) (x:V) (b:Bool):Prop:=(∃T,yaU K H x T∧T≠"tuple"∧b=false)∨∃a xs,x = .ref a∧SqT K H a xs∧xs.length≤200∧(∀e∈xs,Kd K H e)∧b=fn xs
inductive zds (K:PySem.W.Frag) (vs:List V) (H:Hp) (Q:VK) (E:XK):Prop
  | mk (x:V) (T:String) (c1:vs=[x]) (c2:yaU K H x T) (c3:Q (.bl (T=="int")) H):zds K vs H Q E
inductive ycB (K:PySem.W.Frag) (vs:List V) (H:Hp) (Q:VK) (E:XK):Prop
  | mk (x:V) (c:Nat) (b:Bool) (c1:vs=[x,Vn c]) (c2:Res K H (fun xs=>decide (xs.length=c)&&xs.all isI) x b) (c3:∀H',Same H H'→Q (.bl b) H'):ycB K vs H Q E
theorem ydp {p m low:Nat} (mem:(p,m)∈menu) (h2:2≤low) (h:low<p):p%low≠0:=by
  have h1:=List.all_eq_true.mp zcM _ mem
  have h3:=List.all_eq_true.mp h1 low (List.mem_range.mpr h)
  rw [Bool.or_eq_true] at h3
  rcases h3 with h3|h3
  · have:=of_decide_eq_true h3;omega
  · exact of_decide_eq_true h3
def prB (n:Nat):Bool:=(List.range (n-2)).all fun j=>decide (0<n%(2+j))
theorem ygg:((List.range 63).all fun i=>!prB (2+i)||(List.range 6).all fun j=>!decide ((2+i)^(1+j)<65)||menu.contains (2+i,1+j))=true:=by decide +kernel
theorem yga {i j:Nat} (hi:i<63) (hj:j<6) (h1:prB (2+i)=true) (h2:(2+i)^(1+j)<65):(2+i,1+j)∈menu:=by
  have g:=List.all_eq_true.mp ygg i (List.mem_range.mpr hi)
  rw [h1,Bool.not_true,Bool.false_or] at g
  have g2:=List.all_eq_true.mp g j (List.mem_range.mpr hj)
  rw [decide_eq_true h2,Bool.not_true,Bool.false_or] at g2
  exact List.contains_iff_mem.mp g2
noncomputable def fB:List V→Bool
  | [.int i,.int j,.int k]=>@decide (∃p m t:Nat,i=p∧j=m∧k=t∧Good p m t) (Classical.propDecidable _)
  | _=>false
theorem zhp (h:(decide (xs.length=3)&&xs.all isI)=false):fB xs=false:=by
  unfold fB
  split
  · exact absurd h (by simp [isI])
  · rfl
theorem yg1 (h:(decide (xs.length=3)&&xs.all isI)=true):∃i j k,xs=[.int i,.int j,.int k]:=by
  rw [Bool.and_eq_true] at h
  obtain ⟨h1,h2⟩:=h
  have h1:=of_decide_eq_true h1
  match xs,h1 with
  | [x,y,z],_ =>
    simp only [List.all_cons,List.all_nil,Bool.and_true,Bool.and_eq_true] at h2
    obtain ⟨a,b,c⟩:=h2
    cases x <;> first|cases a|skip
    cases y <;> first|cases b|skip
    cases z <;> first|cases c|skip
    exact ⟨_,_,_,rfl⟩
theorem fB_f {i j k:Int} (h:∀p m t:Nat,i=p→j=m→k=t→¬ Good p m t):fB [.int i,.int j,.int k]=false:=by
  show @decide _ (Classical.propDecidable _)=false
  exact @decide_eq_false _ (Classical.propDecidable _) fun ⟨p,m,t,a,b,c,d⟩=>h p m t a b c d
theorem fB_b {p m t:Nat} {b:Bool} (h:b=true↔Good p m t):fB [.int (p:Int),.int (m:Int),.int (t:Int)]=b:=by
  show @decide _ (Classical.propDecidable _)=b
  cases b with
  | true=>exact @decide_eq_true _ (Classical.propDecidable _) ⟨p,m,t,rfl,rfl,rfl,h.mp rfl⟩
  | false =>
    refine @decide_eq_false _ (Classical.propDecidable _) fun ⟨p',m',t',a,b,c,d⟩=>?_
    cases Int.ofNat.inj a;cases Int.ofNat.inj b;cases Int.ofNat.inj c
    exact absurd (h.mpr d) (by decide)
section
variable {P:Program} {w:World} {mg:Str→Option Value} {base:Heap} {f:Addr} {fd:FuncData}
theorem yd2:yaf ["thing"] ["thing"] (zac zb1):=⟨rfl,rfl,rfl,by decide +kernel,rfl,by decide +kernel,by decide +kernel⟩
theorem zgT (B:Bl mg) (F:Fun K "is_whole" "is_whole" zb1 f fd):FnOk P w K mg base CX0 1 f fd ["thing"] (zds K):=by
  refine F.ok yd2 (fun vs H Q E h=>?_) (fun cdv A outer s H vs Q E hr h=>?_)
  · obtain ⟨x,T,rfl,_⟩:=h;rfl
  obtain ⟨x,T,rfl,hk,q⟩:=h
  refine ⟨_,(~~~((@yd5 _ _ _ _ _ _ _ (zcd>>>("isinstance",PyProof.Rows.boot_isinstance,((pv 0)>=>("int"⊂zbf)>=>yaa))) (@zeV _ _ _ _ _ (@yf7 _ _ _ _ (zcr>>>("isinstance",PyProof.Rows.boot_isinstance,((pv 0)>=>("bool"⊂ybl)>=>yaa))))))⁻¹)),?_⟩
  try dsimp only [cxOf]
  refine ⟨_,rfl,x,T,rfl,hk,_,rfl,?_⟩
  refine ite2 (fun c=>?_) (fun c=>?_)
  · refine ⟨_,rfl,x,T,rfl,hk,_,rfl,?_⟩
    have e:(!subK T "bool")=(T=="int"):=by
      by_cases h:T = "int"
      · subst h;decide
      · have h2:T = "bool":=by
          unfold subK at c
          simp [h] at c
          exact c
        subst h2;decide
    rw [e];exact q
  · have e:(T=="int")=false:=by
      cases h:(T=="int") with
      | false=>rfl
      | true=>exact absurd (by unfold subK;rw [h];rfl) c
    rw [e] at q;exact q
theorem zdv:yaf ["thing","many"] ["thing","many"] (zac yba):=⟨rfl,rfl,rfl,by decide +kernel,rfl,by decide +kernel,by decide +kernel⟩
theorem ye2 (B:Bl mg) (h_is_whole:Has P w K mg base 1 "is_whole" ["thing"] (zds K)) (F:Fun K "is_wholes" "is_wholes" yba f fd):FnOk P w K mg base CX0 2 f fd ["thing","many"] (ycB K):=by
  refine F.ok zdv (fun vs H Q E h=>?_) (fun cdv A outer s H vs Q E hr h=>?_)
  · obtain ⟨x,c,b,rfl,_⟩:=h;rfl
  obtain ⟨x,c,b,rfl,hx,q⟩:=h
  refine ⟨_,(((@PW.pt _ _ _ (@yaQ _ _ _ _ _ _ _ (@zau _ _ _ _ (@yar _ _ _ (yau>>>("isinstance",PyProof.Rows.boot_isinstance,((pv 0)>=>("tuple"⊂zaj)>=>yaa))) (by intro _;rfl))) (@yaD _ _ _ _ (zbW∪(yah>>>("len",PySem.boot_len,((pv 0)>=>yaa)))∪(pv 1)))))*>((~~~(yaF⁻¹)),yae))<=<(~~~(((ybC rfl)>>>("all",PyProof.Rows.boot_all,((["part"]⊆([],[],["thing","many"],yba,(@zcP _ _ _ _ (pv 0)),(0⊇["part"]),zaP,(h_is_whole<$>((pv 0)>=>yaa))))>=>yaa)))⁻¹))),?_⟩
  try dsimp only [cxOf]
  rcases hx with ⟨T,hk,hT,rfl⟩ | ⟨a,xs,rfl,ha,hl,hkd,rfl⟩
  · refine ⟨_,rfl,x,T,rfl,hk,_,rfl,?_⟩
    have e:subK T "tuple"=false:=by unfold subK;simp [hT]
    rw [e]
    refine ite2 (fun _=>?_) (fun c=>absurd rfl c)
    refine ite2 (fun _=>?_) (fun c=>absurd rfl c)
    exact q _ (Same.refl _)
  refine ⟨_,rfl,.ref a,"tuple",rfl,.inl (.inr ⟨rfl,xs,ha⟩),_,rfl,?_⟩
  refine ite2 (fun c=>absurd c (by decide)) (fun _=>?_)
  refine ⟨_,rfl,a,xs,rfl,.inr ha,_,rfl,?_⟩
  have ed:decide (V.int (xs.length:Int)=Vn c)=decide (xs.length=c):=decide_eq_decide.mpr ⟨fun e=>by injection e with e;omega,fun e=>by rw [e]⟩
  refine ⟨rfl,_,rfl,?_⟩
  rw [ed]
  dsimp only at q
  by_cases hc:xs.length=c
  · rw [decide_eq_true hc] at q ⊢
    rw [Bool.true_and] at q
    refine ite2 (fun c=>absurd c (by decide)) (fun _=>?_)
    dsimp only [yaS]
    refine ⟨_,rfl,a,rfl,⟨_,ha⟩,?_⟩
    refine yav (zbx (xs:=xs)) (fun i acc H'=>H'=H∧acc=(xs.take i).map fun e=>V.bl (isI e)) ⟨rfl,rfl⟩ (fun i acc H' _ h=>by rw [h.1];exact ha) ?_ ?_ ?_
    · rintro i acc H' hi ⟨_,rfl⟩
      rw [List.length_map,List.length_take];exact yai (by omega)
    · rintro i acc z H2 H2' hi ⟨rfl,rfl⟩ ⟨rfl,ez⟩
      obtain ⟨T,hk⟩:=hkd z (List.mem_of_getElem? ez)
      refine ⟨_,rfl,z,T,rfl,hk,rfl,?_⟩
      rw [zaQ ez,List.map_append,yby hk];rfl
    · rintro acc H2 ⟨rfl,rfl⟩ D hD
      rw [List.take_length]
      refine ⟨D,xs.map isI,rfl,SqL.of (by rw [zab,List.map_map];rfl),?_⟩
      have e:(xs.map isI).all id=xs.all isI:=by rw [List.all_map];rfl
      dsimp only
      rw [e]
      exact q _ (yab hD _)
  · rw [decide_eq_false hc] at q ⊢
    refine ite2 (fun _=>?_) (fun c=>absurd rfl c)
    exact q _ (Same.refl _)
inductive yct (vs:List V) (H:Hp) (Q:VK) (E:XK):Prop
  | mk (p:Nat) (c1:vs=[Vn p]) (c2:2≤p) (c3:p≤64) (c4:Q (.bl (prB p)) H):yct vs H Q E
theorem ycC:yaf ["number","low"] ["number"] (zac zbT):=⟨rfl,rfl,rfl,by decide +kernel,rfl,by decide +kernel,by decide +kernel⟩
theorem yfi (B:Bl mg) (F:Fun K "is_prime" "is_prime" zbT f fd):FnOk P w K mg base CX0 1 f fd ["number"] yct:=by
  refine F.ok ycC (fun vs H Q E h=>?_) (fun cdv A outer s H vs Q E hr h=>?_)
  · obtain ⟨p,rfl,_⟩:=h;rfl
  obtain ⟨p,rfl,h2,h64,q⟩:=h
  refine ⟨_,(((@zaV _ _ _ _ _ _ _ rfl (B "range" (by decide)) (zaa>=>(pv 0)>=>yaa) (by rfl) (by rfl))<&>((1&&&ycC.nd),(~~~((zaZ∪(yan|||(pv 0)|||(pv 1))∪zaa)*>((~~~(yaF⁻¹)),yae)))))<=<(~~~(yaF⁻¹))),?_⟩
  try dsimp only [cxOf]
  refine ⟨_,rfl,2,(p:Int),rfl,by lia,?_⟩
  refine yaB (lo:=2) (fun i σ' H'=>H'=H∧(∀k,k<i→0<p%(2+k))∧∃v1,σ'=[some (Vn p),v1]) ⟨rfl,fun k hk=>by lia,_,rfl⟩ ?_ ?_
  · rintro i σ' H' hi ⟨rfl,hk,v1,rfl⟩
    have hl:2+i<p:=by lia
    rw [show V.int (2+(i:Int))=Vn (2+i) from zcZ (by lia)]
    dsimp only [yat]
    have ed:decide (V.int ((p:Int)%((2+i:Nat):Int))=V.int 0)=decide (p%(2+i)=0):=yc4 _
    refine ⟨_,rfl,_,rfl,_,_,rfl,rfl,by show (0:Int)<((2+i:Nat):Int);lia,rfl,decide (p%(2+i)=0),?_,?_⟩
    · show V.bl (decide (V.int ((p:Int)%((2+i:Nat):Int))=V.int 0))=_
      rw [ed]
    refine ite2 (fun c=>?_) (fun c=>?_)
    · have c':=of_decide_eq_true c
      have e:prB p=false:=Bool.eq_false_iff.mpr fun h=>by
        have:=of_decide_eq_true (List.all_eq_true.mp h i (List.mem_range.mpr (by lia)))
        lia
      rw [e] at q;exact q
    · refine ⟨rfl,fun k hk'=>?_,_,rfl⟩
      have c':¬ p%(2+i)=0:=fun e=>c (decide_eq_true e)
      rcases Nat.lt_or_ge k i with h|h
      · exact hk k h
      · rw [show k=i by lia];lia
  · rintro σ' H' ⟨rfl,hk,v1,rfl⟩
    have e:prB p=true:=List.all_eq_true.mpr fun i hi=>decide_eq_true (hk i (by have:=List.mem_range.mp hi;lia))
    rw [e] at q;exact q
inductive zbN (K:PySem.W.Frag) (vs:List V) (H:Hp) (Q:VK) (E:XK):Prop
  | mk (a:Addr) (p m:Nat) (v:V) (c1:vs=[.ref a]) (c2:SqT K H a [Vn p,Vn m,v]) (c3:p≤64) (c4:m≤1000) (c5:Q (Vn (p^m)) H):zbN K vs H Q E
theorem zfU (B:Bl mg) (h_number_power:Has P w K mg base 1 "number_power" ["base","many"] yag) (F:Fun K "many_things" "many_things" zba f fd):FnOk P w K mg base CX0 2 f fd ["field"] (zbN K):=by
  refine F.ok zcF (fun vs H Q E h=>?_) (fun cdv A outer s H vs Q E hr h=>?_)
  · obtain ⟨a,p,m,t,rfl,_⟩:=h;rfl
  obtain ⟨a,p,m,t,rfl,hF,hp,hm,q⟩:=h
  refine ⟨_,(~~~((h_number_power<$>((zao<<<(pv 0)<<<zaa)>=>(zao<<<(pv 0)<<<zaa)>=>yaa))⁻¹)),?_⟩
  try dsimp only [cxOf]
  refine ⟨_,rfl,a,_,_,_,rfl,rfl,hF,rfl,_,rfl,a,_,_,_,rfl,rfl,hF,rfl,p,m,rfl,hp,hm,q⟩
theorem yaH:yaf ["field","others","one"] ["field"] (zac yaJ):=⟨rfl,rfl,rfl,by decide +kernel,rfl,by decide +kernel,by decide +kernel⟩
theorem zeA (B:Bl mg) (h_many_things:Has P w K mg base 2 "many_things" ["field"] (zbN K)) (h_times_itself:Has P w K mg base 4 "times_itself" ["field","one","many"] (zbV K)) (F:Fun K "all_come_to_one" "all_come_to_one" yaJ f fd):FnOk P w K mg base CX0 5 f fd ["field"] (zb0 K):=by
  refine F.ok yaH (fun vs H Q E h=>?_) (fun cdv A outer s H vs Q E hr h=>?_)
  · obtain ⟨a,p,m,t,rfl,_⟩:=h;rfl
  obtain ⟨a,p,m,t,rfl,hF,G,q⟩:=h
  have hp:=G.hp
  have hm:=G.hm
  have hQ:=ya9 hp hm
  have hq:=G.hq
  refine ⟨_,((1<|>yaH.nd<|>(ya1|||(h_many_things<$>((pv 0)>=>yaa))|||zaa))<=<((@zaV _ _ _ _ _ _ _ rfl (B "range" (by decide)) (zaa>=>(yal|||(pv 1)|||zaa)>=>yaa) (by rfl) (by rfl))<&>((2&&&yaH.nd),(~~~((zbW∪(h_times_itself<$>((pv 0)>=>(pv 2)>=>(pv 1)>=>yaa))∪zaa)*>((~~~(yaF⁻¹)),yae)))))<=<(~~~(yaF⁻¹))),?_⟩
  try dsimp only [cxOf]
  refine ⟨_,rfl,a,p,m,Vn t,rfl,hF,p_le hp hm G.hq,by have:=m_le hp G.hq;omega,_,_,rfl,rfl,?_⟩
  dsimp only [yat]
  rw [show ((p^m:Nat):Int)-1=((p^m-1:Nat):Int) by omega]
  refine ⟨_,rfl,_,_,rfl,rfl,?_⟩
  refine ⟨1,((p^m:Nat):Int),by show [V.int 1,V.int (((p^m-1:Nat):Int)+1)]=_;rw [show ((p^m-1:Nat):Int)+1=((p^m:Nat):Int) by omega],by omega,?_⟩
  refine yaB (lo:=1) (fun i σ' H'=>H'=H∧(∀k,k<i→pw p m t (1+k) (p^m-1)=1)∧∃v2,σ'=[some (.ref a),some (Vn (p^m-1)),v2]) ⟨rfl,fun k hk=>by omega,_,rfl⟩ ?_ ?_
  · rintro i σ' H' hi ⟨rfl,hk,v1,rfl⟩
    have hl:1+i<p^m:=by omega
    rw [show V.int (1+(i:Int))=Vn (1+i) from zcZ (by omega)]
    dsimp only [yat]
    refine ⟨_,rfl,_,rfl,_,rfl,a,p,m,t,1+i,p^m-1,rfl,hF,G,hl,?_⟩
    have ed:decide (Vn (pw p m t (1+i) (p^m-1))=V.int 1)=decide (pw p m t (1+i) (p^m-1)=1):=decide_eq_decide.mpr ⟨fun h=>by have:=V.int.inj h;omega,fun h=>by rw [h];rfl⟩
    refine ⟨rfl,!decide (pw p m t (1+i) (p^m-1)=1),by show V.bl (!decide (Vn (pw p m t (1+i) (p^m-1))=V.int 1))=_;rw [ed],?_⟩
    refine ite2 (fun c=>?_) (fun c=>?_)
    · have c':¬ pw p m t (1+i) (p^m-1)=1:=fun e=>by rw [decide_eq_true e] at c;exact absurd c (by decide)
      have e:ycT p m t=false:=Bool.eq_false_iff.mpr fun h=>c' (of_decide_eq_true (List.all_eq_true.mp h i (List.mem_range.mpr (by omega))))
      rw [e] at q
      exact q
    · have c':pw p m t (1+i) (p^m-1)=1:=Classical.byContradiction fun e=>c (by rw [decide_eq_false e];rfl)
      refine ⟨rfl,fun k hk'=>?_,_,rfl⟩
      rcases Nat.lt_or_ge k i with h|h
      · exact hk k h
      · rw [show k=i by omega];exact c'
  · rintro σ' H' ⟨rfl,hk,v1,rfl⟩
    have e:ycT p m t=true:=by
      unfold ycT
      rw [List.all_eq_true]
      intro i hi
      exact decide_eq_true (hk i (by have:=List.mem_range.mp hi;omega))
    rw [e] at q
    exact q
end
end My
end
section
namespace My
open PySem L2 Dg
section
variable {P:Program} {w:World} {mg:Str→Option Value} {base:Heap} {f:Addr} {fd:FuncData}
inductive yaY (K:PySem.W.Frag) (vs:List V) (H:Hp) (Q:VK) (E:XK):Prop
  | mk (x:V) (b:Bool) (c1:vs=[x]) (c2:Res K H fB x b) (c3:∀H',Same H H'→Q (.bl b) H'):yaY K vs H Q E
theorem zaW:yaf ["thing","p","m","top","many"] ["thing"] (zac zb2):=⟨rfl,rfl,rfl,by decide +kernel,rfl,by decide +kernel,by decide +kernel⟩
theorem zdP (m_MOST_THINGS:mg "MOST_THINGS"=some (.int 64 tk)) (B:Bl mg) (h_is_wholes:Has P w K mg base 2 "is_wholes" ["thing","many"] (ycB K)) (h_is_prime:Has P w K mg base 1 "is_prime" ["number"] yct) (h_many_things:Has P w K mg base 2 "many_things" ["field"] (zbN K)) (h_all_come_to_one:Has P w K mg base 5 "all_come_to_one" ["field"] (zb0 K)) (F:Fun K "is_field" "is_field" zb2 f fd):FnOk P w K mg base CX0 6 f fd ["thing"] (yaY K):=by
  refine F.ok zaW (fun vs H Q E h=>?_) (fun cdv A outer s H vs Q E hr h=>?_)
  · obtain ⟨x,b,rfl,_⟩:=h;rfl
  obtain ⟨x,b,rfl,hx,q⟩:=h
  refine ⟨_,(((@zau _ _ _ _ (@yar _ _ _ (h_is_wholes<$>((pv 0)>=>zaa>=>yaa)) (by intro _;rfl)))*>((~~~(yaF⁻¹)),yae))<=<((pv 0)≈((1&&&zaW.nd)∩((2&&&zaW.nd)∩((3&&&zaW.nd)∩yaA))))<=<((@zau _ _ _ _ (@PW.pt _ _ _ (@yeb _ _ _ _ _ _ _ (@zbC _ _ _ _ _ _ _ _ _ _ _ _ ycG ycG zaa (pv 1) (@zdM _ _ _ _ _ rfl m_MOST_THINGS (ycf _ _) (by decide)) (by with_unfolding_all rfl)) (@yeb _ _ _ _ _ _ _ (@zbC _ _ _ _ _ _ _ _ _ _ _ _ ycG ycG zaa (pv 2) (@zdM _ _ _ _ _ rfl m_MOST_THINGS (ycf _ _) (by decide)) (by with_unfolding_all rfl)) (@ydW _ _ _ _ (@yar _ _ _ (h_is_prime<$>((pv 1)>=>yaa)) (by intro _;rfl)))))))*>((~~~(yaF⁻¹)),yae))<=<(4<|>zaW.nd<|>(h_many_things<$>((pv 0)>=>yaa)))<=<((@PW.pt _ _ _ (@yaQ _ _ _ _ _ _ _ (ybM∪(pv 4)∪(@zdM _ _ _ _ _ rfl m_MOST_THINGS (ycf _ _) (by decide))) (@yaD _ _ _ _ (@zau _ _ _ _ (@zbC _ _ _ _ _ _ _ _ _ _ _ _ ycG zdm zaa (pv 3) (pv 4) (by with_unfolding_all rfl))))))*>((~~~(yaF⁻¹)),yae))<=<(~~~((h_all_come_to_one<$>((pv 0)>=>yaa))⁻¹))),?_⟩
  try dsimp only [cxOf]
  rcases hx with ⟨T,hk,hT,rfl⟩ | ⟨a,xs,rfl,ha,hl,hkd,rfl⟩
  · refine ⟨_,rfl,x,3,false,rfl,.inl ⟨T,hk,hT,rfl⟩,fun H1 s1=>?_⟩
    refine ⟨false,rfl,?_⟩
    exact ite2 (fun _=>q _ s1) (fun c=>absurd rfl c)
  refine ⟨_,rfl,.ref a,3,_,rfl,.inr ⟨a,xs,rfl,ha,hl,hkd,rfl⟩,fun H1 s1=>?_⟩
  refine ⟨_,rfl,?_⟩
  cases e:(decide (xs.length=3)&&xs.all isI) with
  | false =>
    rw [zhp e] at q
    exact ite2 (fun _=>q _ s1) (fun c=>absurd (show (!(decide (xs.length=3)&&xs.all isI))=true by rw [e];rfl) c)
  | true =>
    refine ite2 (fun c=>absurd (show (!(decide (xs.length=3)&&xs.all isI))=true from c) (by rw [e];decide)) (fun _=>?_)
    obtain ⟨i,j,k,rfl⟩:=yg1 e
    have q:=q _ s1
    dsimp only [yaS]
    have hF1:=Same.tup s1 ha
    have no:(∀p m t:Nat,i=p→j=m→k=t→¬ Good p m t)→Q (.bl false) H1:=fun h=>by rw [fB_f h] at q;exact q
    refine ⟨_,rfl,a,_,rfl,hF1,rfl,_,_,rfl,_,_,rfl,_,_,rfl,rfl,?_⟩
    refine ⟨_,rfl,_,_,rfl,rfl,decide ((2:Int)≤i),rfl,?_⟩
    refine ite2 (fun c1=>?_) (fun c1=>?_)
    case' refine_2 =>
      refine ⟨false,rfl,?_⟩
      refine ite2 (fun c=>absurd c (by decide)) (fun _=>?_)
      refine ite2 (fun _=>?_) (fun c=>absurd rfl c)
      exact no fun p m t e1 e2 e3 G=>c1 (decide_eq_true (by have:=G.hp;lia))
    have c1:=of_decide_eq_true c1
    obtain ⟨p,rfl⟩:=Int.eq_ofNat_of_zero_le (show 0≤i by lia)
    refine ⟨_,_,rfl,rfl,decide ((p:Int)≤64),rfl,?_⟩
    refine ite2 (fun c2=>?_) (fun c2=>?_)
    case' refine_2 =>
      refine ite2 (fun _=>?_) (fun c=>absurd rfl c)
      refine no fun p' m t e1 e2 e3 G=>c2 (decide_eq_true ?_)
      have:=p_le G.hp G.hm G.hq
      lia
    have c2:=of_decide_eq_true c2
    refine ⟨_,rfl,_,_,rfl,rfl,decide ((1:Int)≤j),rfl,?_⟩
    refine ite2 (fun c3=>?_) (fun c3=>?_)
    case' refine_2 =>
      refine ⟨false,rfl,?_⟩
      refine ite2 (fun c=>absurd c (by decide)) (fun _=>?_)
      refine ite2 (fun _=>?_) (fun c=>absurd rfl c)
      exact no fun p m t e1 e2 e3 G=>c3 (decide_eq_true (by have:=G.hm;lia))
    have c3:=of_decide_eq_true c3
    obtain ⟨m,rfl⟩:=Int.eq_ofNat_of_zero_le (show 0≤j by lia)
    refine ⟨_,_,rfl,rfl,decide ((m:Int)≤64),rfl,?_⟩
    refine ite2 (fun c4=>?_) (fun c4=>?_)
    case' refine_2 =>
      refine ite2 (fun _=>?_) (fun c=>absurd rfl c)
      refine no fun p' m' t e1 e2 e3 G=>c4 (decide_eq_true ?_)
      have:=m_le G.hp G.hq
      lia
    have c4:=of_decide_eq_true c4
    refine ⟨_,rfl,p,rfl,by lia,by lia,_,rfl,?_⟩
    refine ite2 (fun c5=>?_) (fun c5=>?_)
    · refine no fun p' m' t e1 e2 e3 G=>?_
      cases Int.ofNat.inj e1
      have:prB p=true:=List.all_eq_true.mpr fun i hi=>decide_eq_true (by have:=ydp G.mem (low:=2+i) (by lia) (by have:=List.mem_range.mp hi;lia);lia)
      rw [this] at c5
      exact absurd c5 (by decide)
    have c5:prB p=true:=by cases h:prB p with|true=>rfl|false=>exact absurd (by rw [h];rfl) c5
    dsimp only [yaS]
    refine ⟨_,rfl,a,p,m,_,rfl,hF1,by lia,by lia,?_⟩
    dsimp only [yat]
    refine ⟨_,rfl,_,_,rfl,rfl,decide ((64:Int)<((p^m:Nat):Int)),rfl,?_⟩
    refine ite2 (fun c6=>?_) (fun c6=>?_)
    · refine no fun p' m' t e1 e2 e3 G=>?_
      cases Int.ofNat.inj e1;cases Int.ofNat.inj e2
      have:=of_decide_eq_true c6
      have:=G.hq
      lia
    have c6:p^m≤64:=by
      rcases Nat.lt_or_ge 64 (p^m) with h|h
      · exact absurd (decide_eq_true (by lia)) c6
      · exact h
    refine ⟨_,rfl,_,_,rfl,rfl,decide ((0:Int)≤k),rfl,?_⟩
    refine ite2 (fun c7=>?_) (fun c7=>?_)
    case' refine_2 =>
      refine ⟨false,rfl,?_⟩
      refine ite2 (fun _=>?_) (fun c=>absurd rfl c)
      exact no fun p m t e1 e2 e3 G=>c7 (decide_eq_true (by lia))
    have c7:=of_decide_eq_true c7
    obtain ⟨t,rfl⟩:=Int.eq_ofNat_of_zero_le (show 0≤k by lia)
    refine ⟨_,rfl,_,_,rfl,rfl,decide ((t:Int)<((p^m:Nat):Int)),rfl,?_⟩
    refine ite2 (fun c8=>?_) (fun c8=>?_)
    · refine no fun p' m' t' e1 e2 e3 G=>?_
      cases Int.ofNat.inj e1;cases Int.ofNat.inj e2;cases Int.ofNat.inj e3
      have:=G.top
      rw [decide_eq_true (by lia)] at c8
      exact absurd c8 (by decide)
    have c8:t<p^m:=by
      rcases Nat.lt_or_ge t (p^m) with h|h
      · exact h
      · exact absurd (by rw [decide_eq_false (by lia)];rfl) c8
    dsimp only [yaS]
    have R:Rg p m t:=⟨by lia,by lia,c6,c8⟩
    have m6:=m_le R.hp c6
    have mem:(p,m)∈menu:=by
      have:=yga (i:=p-2) (j:=m-1) (by lia) (by lia) (by rw [show 2+(p-2)=p by lia];exact c5) (by rw [show 2+(p-2)=p by lia,show 1+(m-1)=m by lia];lia)
      rwa [show 2+(p-2)=p by lia,show 1+(m-1)=m by lia] at this
    refine ⟨_,rfl,a,p,m,t,rfl,hF1,R,?_⟩
    rw [fB_b (zfF mem c8)] at q
    exact q
end
end My
end
section
set_option exponentiation.threshold 1100
namespace My
open PySem L2 Dg
theorem ybJ {Q:Option Int→Hp→Prop} (h:Q none H):yfo σ H Q:=h
noncomputable def RX (K:PySem.W.Frag) (H:Hp) (pu g:Addr) (W:Nat) (v:V):Prop:=∃d:PyData,DkA d W (30+W/4000)∧(∀H',zaf pu g H H'→Rd1 K H' v d)∧
  (((∃T,yaU K H v T∧T≠"tuple")∧apV pu g v∧∀ds,d≠.tuple ds)∨
   Ex3 fun (a:Addr) (xs:List V) (ds:List PyData)=>v = .ref a∧d = .tuple ds∧H a=some (.tup xs)∧(a≠pu∧a≠g)∧xs.length≤200∧xs.length=ds.length∧(∀e∈xs,KdX K H pu g e)∧∀(i:Nat) y e k,xs[i]?=some y→ds[i]?=some e→e = .int k→y = .int k)
theorem RX.x {K:PySem.W.Frag} {W:Nat} (h:RX K H pu g W v) (s:zaf pu g H H'):RX K H' pu g W v:=by
  obtain ⟨d,h1,h2,h⟩:=h
  refine ⟨d,h1,fun H2 s2=>h2 H2 (s.trans s2),?_⟩
  rcases h with ⟨⟨T,h3,h4⟩,n,h5⟩ | ⟨a,xs,ds,rfl,rfl,h3,n,h4,h5,h6,h7⟩
  · exact .inl ⟨⟨T,zc6 s n h3,h4⟩,n,h5⟩
  · exact .inr ⟨a,xs,ds,rfl,rfl,s _ _ n.1 n.2 h3,n,h4,h5,fun e he=>(h6 e he).x s,h7⟩
theorem RX.mono {K:PySem.W.Frag} {W W':Nat} (h:RX K H pu g W v) (hw:W≤W'):RX K H pu g W' v:=by
  obtain ⟨d,h1,h2⟩:=h
  exact ⟨d,h1.mono hw (by have:=Nat.div_le_div_right (c:=4000) hw;lia),h2⟩
theorem RX.th {K:PySem.W.Frag} {W:Nat} (h:RX K H pu g W v):ThX K H pu g v:=by
  obtain ⟨d,h1,h2,⟨⟨T,h3,h4⟩,n,h5⟩ | ⟨a,xs,ds,rfl,rfl,h3,n,h4,h5,h6,h7⟩⟩:=h
  · exact .inl ⟨T,h3,h4,n⟩
  · exact .inr ⟨a,xs,rfl,SqT.of h3,n,h4,h6⟩
noncomputable def Od (K:PySem.W.Frag) (H:Hp) (pu g:Addr) (v:V):Prop:=((∃T,yaU K H v T∧T≠"tuple")∧apV pu g v)∨Ex2 fun (a:Addr) (xs:List V)=>v = .ref a∧SqT K H a xs∧(a≠pu∧a≠g)∧xs.length≤1
theorem Od.x {K:PySem.W.Frag} (h:Od K H pu g v) (s:zaf pu g H H'):Od K H' pu g v:=by
  rcases h with ⟨⟨T,h3,h4⟩,n⟩ | ⟨a,xs,rfl,h3,n,h4⟩
  · exact .inl ⟨⟨T,zc6 s n h3,h4⟩,n⟩
  · exact .inr ⟨a,xs,rfl,ze9 s n h3,n,h4⟩
def RO (K:PySem.W.Frag) (H:Hp) (pu g:Addr) (W:Nat) (v:V):Prop:=RX K H pu g W v∧Od K H pu g v
theorem RO.x {K:PySem.W.Frag} {W:Nat} (h:RO K H pu g W v) (s:zaf pu g H H'):RO K H' pu g W v:=⟨h.1.x s,h.2.x s⟩
theorem zdf {K:PySem.W.Frag} {W:Nat} {d:PyData} {T:String} (hd:DkA d W 1) (hr:∀H',Rd1 K H' v d) (hk:yaU K H v T) (hT:T≠"tuple") (n:apV pu g v) (hn:∀ds,d≠.tuple ds):RO K H pu g W v :=
  ⟨⟨d,hd.mono (Nat.le_refl _) (by lia),fun H' _=>hr H',.inl ⟨⟨T,hk,hT⟩,n,hn⟩⟩,.inl ⟨⟨T,hk,hT⟩,n⟩⟩
theorem zdC {K:PySem.W.Frag} {W:Nat} {i:Int} (h:i.natAbs<2^400) (hW:400≤W):RO K H pu g W (.int i) :=
  zdf (d:=.int i) (T:="int") ((yb4 h).mono hW (by decide)) (fun H'=>(yc7 (n:=0) i).one) (.inl rfl) (by decide) (fun _ e=>nomatch e) (fun ds e=>nomatch e)
theorem zgh {K:PySem.W.Frag} {W:Nat} (b:Bool):RO K H pu g W (.bl b) :=
  zdf (d:=.bool b) (T:="bool") ((zho b).mono (Nat.zero_le _) (by decide)) (fun H'=>⟨1,.inl ⟨.inr (.inl ⟨b,rfl,rfl⟩),rfl⟩⟩) (.inl rfl) (by decide) (fun _ e=>nomatch e) (fun ds e=>nomatch e)
theorem zg1 {K:PySem.W.Frag} {W:Nat}:RO K H pu g W .non :=
  zdf (d:=.none) (T:="NoneType") (yg7.mono (Nat.zero_le _) (by decide)) (fun H'=>⟨1,.inl ⟨.inl ⟨rfl,rfl⟩,rfl⟩⟩) (.inl rfl) (by decide) (fun _ e=>nomatch e) (fun ds e=>nomatch e)
theorem zfj {K:PySem.W.Frag} {W:Nat} (h:z.length≤W) (hc:∀c∈z.cps.toList,c<16^8):RO K H pu g W (.str z) :=
  zdf (d:=.str z) (T:="str") ((yg2 h hc).mono (Nat.le_refl _) (by decide)) (fun H'=>⟨1,.inl ⟨.inr (.inr (.inr (.inl ⟨z,rfl,rfl⟩))),rfl⟩⟩) (.inl rfl) (by decide) (fun _ e=>nomatch e) (fun ds e=>nomatch e)
theorem zeR {K:PySem.W.Frag} {W:Nat} {ds:List PyData} (h:SqL K H l xs) (n:l≠pu∧l≠g) (hl:xs.length=ds.length) (hd:DkA (.list ds) W 30) (hr:∀H',zaf pu g H H'→∀(i:Nat) x e,xs[i]?=some x→ds[i]?=some e→RdN K H' 40 x e):RO K H pu g W (.ref l):=by
  have hk:∃T,yaU K H (.ref l) T∧T≠"tuple":=⟨"list",.inl (.inl ⟨rfl,xs,h⟩),by decide⟩
  refine ⟨⟨.list ds,hd.mono (Nat.le_refl _) (by lia),fun H' s=>⟨41,.inl ⟨.inr (.inr (.inr (.inr (.inr ⟨l,xs,ds,rfl,rfl,zgx s n h,hl,fun i x e h1 h2=>(hr H' s i x e h1 h2).rdL⟩)))),ybN fun e he=>?_⟩⟩,.inl ⟨hk,zbj n,fun ds e=>nomatch e⟩⟩,.inl ⟨hk,zbj n⟩⟩
  obtain ⟨i,x,h1,h2⟩:=ydS hl he
  exact (hr H' s i x e h1 h2).nd
theorem ydi {K:PySem.W.Frag} {W m:Nat} {ds:List PyData} (h:H a=some (.tup xs)) (n:a≠pu∧a≠g) (h200:xs.length≤200) (hl:xs.length=ds.length) (hd:DkA (.tuple ds) W (30+W/4000)) (hk:∀e∈xs,KdX K H pu g e) (hr:∀H',zaf pu g H H'→∀(i:Nat) x e,xs[i]?=some x→ds[i]?=some e→RdN K H' m x e):RX K H pu g W (.ref a) :=
  ⟨.tuple ds,hd,fun H' s=>RdN.one (n:=m+1) (.inr ⟨a,xs,ds,rfl,rfl,SqT.of (s _ _ n.1 n.2 h),hl,hr H' s⟩),.inr ⟨a,xs,ds,rfl,rfl,h,n,h200,hl,hk,fun i y e k h1 h2 h3=>by
    subst h3
    exact (hr H zaf.refl i y _ h1 h2).one.vint⟩⟩
theorem ydJ {K:PySem.W.Frag} {ns:List Int} (h:H a=some (.tup (ns.map V.int))) (n:a≠pu∧a≠g) (h200:ns.length≤99) (hs:∀i∈ns,i.natAbs<2^400):RX K H pu g 40000 (.ref a):=by
  refine ydi (m:=1) (ds:=ns.map .int) h n (by rw [List.length_map];lia) (by simp) ?_ (fun e he=>?_) fun H' s i x e h1 h2=>?_
  · refine (ycU (W:=400) (D:=0) fun d hd=>?_).mono ?_ (by decide)
    · obtain ⟨i,hi,rfl⟩:=List.mem_map.mp hd
      exact yb4 (hs i hi)
    · rw [List.length_map]
      exact Nat.le_trans (Nat.mul_le_mul_left _ h200) (by decide)
  · obtain ⟨i,_,rfl⟩:=List.mem_map.mp he
    exact yao i
  · rw [List.getElem?_map] at h1 h2
    cases q:ns[i]? with
    | none=>rw [q] at h1;cases h1
    | some k=>rw [q] at h1 h2;cases h1;cases h2;exact yc7 k
theorem yf3 {K:PySem.W.Frag} (h:H a=some (.tup ys)) (n:a≠pu∧a≠g) (hl:ys.length≤66) (hv:RX K H pu g 600 v) (he:∀e∈ys,(∃i:Nat,i<100∧e=Vn i)∨e=v):RX K H pu g 40000 (.ref a):=by
  have hvk:=hv.th.kd
  obtain ⟨d,h1,h2,h3⟩:=hv
  obtain ⟨f,hf⟩:∃f:V→PyData,∀y∈ys,(∃i:Int,i.natAbs<100∧y = .int i∧f y = .int i)∨(y=v∧f y=d):=by
    refine ⟨fun y=>match y with | .int i=>if y=v then d else .int i|_=>d,fun y hy=>?_⟩
    rcases he y hy with ⟨i,hi,rfl⟩|rfl
    · by_cases c:Vn i=v
      · exact .inr ⟨c,if_pos c⟩
      · exact .inl ⟨i,by lia,rfl,if_neg c⟩
    · refine .inr ⟨rfl,?_⟩
      cases y with
      | int i=>exact if_pos rfl
      | _=>rfl
  have hd0:∀e∈ys.map f,DkA e 600 30:=fun e he=>by
    obtain ⟨y,hy,rfl⟩:=List.mem_map.mp he
    rcases hf y hy with ⟨i,hi,_,e⟩ | ⟨_,e⟩
    · rw [e]
      exact (yb4 (Nat.lt_trans hi (by decide))).mono (by decide) (by decide)
    · rw [e];exact h1
  refine ⟨.tuple (ys.map f),(ycU hd0).mono ?_ (by decide),fun H' s=>Rd1.tupM (SqT.of (s _ _ n.1 n.2 h)) (h2 H' s) f fun y hy=>?_,.inr ⟨a,ys,_,rfl,rfl,h,n,by lia,by simp,fun e he'=>?_,fun i y e k e1 e2 e3=>?_⟩⟩
  · rw [List.length_map]
    exact Nat.le_trans (Nat.mul_le_mul_left _ hl) (by decide)
  · rcases hf y hy with ⟨i,_,e1,e2⟩|e
    · exact .inl ⟨i,e1,e2⟩
    · exact .inr e
  · rcases he e he' with ⟨i,_,rfl⟩|rfl
    · exact yao _
    · exact hvk
  · rw [List.getElem?_map,e1] at e2
    cases e2
    rcases hf y (List.mem_of_getElem? e1) with ⟨i,_,e4,e5⟩ | ⟨e4,e5⟩
    · rw [e5] at e3;cases e3;exact e4
    · rw [e5] at e3
      subst e3
      rw [e4]
      exact (h2 H zaf.refl).vint
structure PlD (K:PySem.W.Frag) (H:Hp) (pu g:Addr) (x:V) (d:PyData) (W:Nat):Prop where
  rd:∀H',zaf pu g H H'→RdN K H' 10 x d
  ok:DOk d (2^20)
  dk:DkA d W 5
  le:d.shown.length≤W
  w4:400≤W
  th:ThX K H pu g x
  sx:(∃i:Int,x = .int i∧i.natAbs.log2<1920∧d = .int i)∨∃a,x = .ref a
theorem PlD.x {K:PySem.W.Frag} {H H':Hp} {pu g:Addr} {x:V} {d:PyData} {W:Nat} (h:PlD K H pu g x d W) (s:zaf pu g H H'):PlD K H' pu g x d W:=⟨fun H2 s2=>h.rd H2 (s.trans s2),h.ok,h.dk,h.le,h.w4,h.th.x s,h.sx⟩
theorem zg2 {K:PySem.W.Frag} {i:Nat} (h:i<100):PlD K H pu g (Vn i) (.int (i:Int)) 400:=by
  have h4:((i:Int)).natAbs<2^400:=Nat.lt_trans (show (i:Int).natAbs<100 by lia) (by decide)
  obtain ⟨k1,k2⟩:=zbg i h
  refine ⟨fun H' _=>yc7 (n:=9) _,⟨decide_eq_true (zbt i h),rfl,Nat.zero_le _,k1,Nat.le_trans k2 (by decide)⟩,(yb4 h4).mono (Nat.le_refl _) (by decide),Nat.le_trans (zep h4) (by decide),Nat.le_refl _,zfG (T:="int") rfl (by decide) (fun _ e=>nomatch e),.inl ⟨_,rfl,zbt i h,rfl⟩⟩
theorem zcW {ns:List Nat} (h:∀n∈ns,n<100) (hl:ns.length≤100):DOk (.tuple (ns.map fun n:Nat=>PyData.int (n:Int))) (2^20)∧(PyData.tuple (ns.map fun n:Nat=>PyData.int (n:Int))).shown.length≤12000∧DkA (.tuple (ns.map fun n:Nat=>PyData.int (n:Int))) (401*ns.length) 1:=by
  obtain ⟨b1,b2,b3,b4,b5⟩:=ydL h
  have hw:(PyData.tuple (ns.map fun n:Nat=>PyData.int (n:Int))).weight≤1100:=by
    show PyData.weightAll _≤1100
    lia
  refine ⟨⟨b1,b2,?_,b4,Nat.le_trans hw (by decide)⟩,?_,?_⟩
  · show PyData.depthAll _+1≤40
    rw [b3];decide
  · have:=PyData.shown_le 8 (by decide) (.tuple (ns.map fun n:Nat=>PyData.int (n:Int))) b4
    lia
  · have:=ycU (W:=400) (D:=0) (ds:=ns.map fun n:Nat=>PyData.int (n:Int)) fun d hd=>by
      obtain ⟨i,hi,rfl⟩:=List.mem_map.mp hd
      exact yb4 (Nat.lt_trans (show (i:Int).natAbs<100 by have:=h i hi;lia) (by decide))
    rw [List.length_map] at this
    exact this
theorem ygY {K:PySem.W.Frag} {ns:List Nat} (e:H a=some (.tup (ns.map Vn))) (n:a≠pu∧a≠g) (h:∀n∈ns,n<100) (hl:ns.length≤64):PlD K H pu g (.ref a) (.tuple (ns.map fun n:Nat=>PyData.int (n:Int))) 30000:=by
  obtain ⟨o1,o2,o3⟩:=zcW h (by lia)
  exact ⟨fun H' s=>yc2 (k:=8) (SqT.of (s _ _ n.1 n.2 e)),o1,o3.mono (by lia) (by decide),by lia,by decide,ybU (SqT.of e) n (by rw [List.length_map];lia) (zdR ns),.inr ⟨a,rfl⟩⟩
theorem zfE {K:PySem.W.Frag} {p m t few root:Nat} {marks:List Nat} (hw:H wa=some (.tup [.ref fa,Vn few,Vn root,.ref mk])) (hf:H fa=some (.tup ([p,m,t].map Vn))) (hm:H mk=some (.tup (marks.map Vn))) (n1:wa≠pu∧wa≠g) (n2:fa≠pu∧fa≠g) (n3:mk≠pu∧mk≠g)
    (h:∀n∈[p,m,t,few,root],n<100) (h2:∀n∈marks,n<100) (hl:marks.length≤64):PlD K H pu g (.ref wa) (whD p m t few root marks) 30000:=by
  have ok:=yg6 h h2 (by lia)
  have hw2:=ok.we
  obtain ⟨_,_,a1⟩:=zcW (ns:=[p,m,t]) (fun n hn=>h n (by simp at hn ⊢;lia)) (by show 3≤100;decide)
  obtain ⟨_,_,a4⟩:=zcW h2 (by lia)
  have sm:∀n:Nat,n<100→DkA (.int (n:Int)) 400 0:=fun n hn=>yb4 (Nat.lt_trans (show (n:Int).natAbs<100 by lia) (by decide))
  have a2:=sm few (h few (by simp))
  have a3:=sm root (h root (by simp))
  refine ⟨fun H' s=>yfx (SqT.of (s _ _ n1.1 n1.2 hw)) (SqT.of (s _ _ n2.1 n2.2 hf)) (SqT.of (s _ _ n3.1 n3.2 hm)),⟨ok.sh,ok.nd,ok.dp,ok.sl,Nat.le_trans hw2 (by decide)⟩,⟨ok.sh,?_,?_,?_⟩,?_,by decide,ybU (SqT.of hw) n1 (by show 4≤200;decide) fun e he=>?_,.inr ⟨wa,rfl⟩⟩
  · show max (PyData.depth (.tuple _)) (max 0 (max 0 (max (PyData.depth (.tuple _)) 0)))+1≤5
    have:=a1.dp;have:=a4.dp
    lia
  · show (PyData.leavesShort 200 (.tuple _)&&(PyData.leavesShort 200 (.int (few:Int))&&(PyData.leavesShort 200 (.int (root:Int))&&(PyData.leavesShort 200 (.tuple _)&&true))))=true
    rw [a1.sl,a2.sl,a3.sl,a4.sl];rfl
  · show PyData.weight (.tuple _)+1+(PyData.weight (.int (few:Int))+1+(PyData.weight (.int (root:Int))+1+(PyData.weight (.tuple _)+1+0)))≤30000
    have w1:PyData.weight (.tuple ([p,m,t].map fun n:Nat=>PyData.int (n:Int)))≤1203:=a1.we
    have:=a2.we;have:=a3.we;have:=a4.we
    lia
  · have:=PyData.shown_le 8 (by decide) (whD p m t few root marks) ok.sl
    lia
  · simp only [List.mem_cons,List.not_mem_nil,or_false] at he
    rcases he with rfl|rfl|rfl|rfl
    · exact ⟨⟨"tuple",.inl (.inr ⟨rfl,_,SqT.of hf⟩)⟩,zbj n2⟩
    · exact yao _
    · exact yao _
    · exact ⟨⟨"tuple",.inl (.inr ⟨rfl,_,SqT.of hm⟩)⟩,zbj n3⟩
end My
end
section
set_option exponentiation.threshold 1100
namespace My
open PySem L2 Dg
theorem yd3 {α β:Type} {x y:α} {d e:β} {i:Nat} (h1:[x][i]?=some y) (h2:[d][i]?=some e):y=x∧e=d:=by
  cases i with
  | zero=>cases h1;cases h2;exact ⟨rfl,rfl⟩
  | succ i=>simp at h1
theorem zed {K:PySem.W.Frag}:∀ {n m:Nat} {v:V} {d:PyData},n≤m→RdN K H n v d→RdN K H m v d
  | 0,_,_,_,_,h=>h.elim
  | n+1,0,_,_,hl,_=>absurd hl (by lia)
  | n+1,m+1,v,d,hl,h=>by
    rcases h with h | ⟨a,xs,ds,e1,e2,h3,h4,h5⟩
    · exact .inl h
    · exact .inr ⟨a,xs,ds,e1,e2,h3,h4,fun i x e h1 h2=>zed (by lia) (h5 i x e h1 h2)⟩
section
variable {P:Program} {w:World} {mg:Str→Option Value} {base:Heap} {f:Addr} {fd:FuncData}
inductive zcU (K:PySem.W.Frag) (vs:List V) (H:Hp) (Q:VK) (E:XK):Prop
  | mk (pu g:Addr) (x:V) (d:PyData) (W:Nat) (c1:vs=[.ref pu,x]) (c2:Pu H pu g) (c3:PlD K H pu g x d W) (c4:∀(v:V) H',RO K H' pu g (W+200) v→Pu H' pu g→zaf pu g H H'→Q v H'):zcU K vs H Q E
theorem zaK:yaf ["_law_purse_here","_law_thing","_law_way","_law_deep","_law_turn","_law_some"] ["_law_purse_here","_law_thing"] (zac ybW):=⟨rfl,rfl,rfl,by decide +kernel,rfl,by decide +kernel,by decide +kernel⟩
theorem zgR (B:Bl mg) (h__law_pick:Has P w K mg base 1 "_law_pick" ["_law_purse_here","_law_many"] yaW) (F:Fun K "_law_odd" "_law_odd" ybW f fd):FnOk P w K mg base CX0 2 f fd ["_law_purse_here","_law_thing"] (zcU K):=by
  refine F.ok zaK (fun vs H Q E h=>?_) (fun cdv A outer s H vs Q E hr h=>?_)
  · obtain ⟨pu,g,x,d,W,rfl,_⟩:=h;rfl
  obtain ⟨pu,g,x,dx,W,rfl,hP,hx,q⟩:=h
  have hW4:=hx.w4
  refine ⟨_,((2<|>zaK.nd<|>(@zad _ _ _ _ _ _ _ _ _ _ _ h__law_pick hr (by lia) rfl ((pv 0)>=>zaa>=>yaa) (by decide) (by rfl) (by rfl)))<=<(3<|>zaK.nd<|>(pv 1))<=<((↑(zaa>=>yaa))<&>((4&&&zaK.nd),(~~~(3<|>zaK.nd<|>(@yax _ _ _ _ _ ((pv 3)>=>yaa))))))<=<(5<|>zaK.nd<|>(@zap _ _ _ _ (yg4>=>yaF>=>yaF>=>(@zch _ _ _ _ _ _ zbw zaa)>=>zaF>=>zaF>=>(@zap _ _ _ _ yaa)>=>zfL>=>(@yax _ _ _ _ _ yaa)>=>(@yax _ _ _ _ _ ((pv 1)>=>yaa))>=>(@zap _ _ _ _ ((pv 1)>=>yaa))>=>(pv 3)>=>yaa)))<=<(~~~((zai<<<(zcR|||(pv 5)|||(@zap _ _ _ _ ((ydo|||zaa|||zaa)>=>zaa>=>(@yeN _ _ _ _ _ (@ybe _ _ _ _ _ _ _ _ _ zaa (pv 1) ye5) rfl rfl (fun h=>nomatch h) (by decide))>=>((yeP hr.gd hr.units)<*("str",ydO,((pv 1)>=>yaa)))>=>yaa)))<<<(pv 2))⁻¹))),?_⟩
  try dsimp only [cxOf]
  refine ⟨_,rfl,pu,g,16,rfl,hP,by lia,by lia,fun way H1 hway hP1 sx1=>?_⟩
  refine ⟨_,rfl,24,rfl,by decide,by decide,?_⟩
  have hx1:=hx.x sx1
  refine yaB (n:=24) (fun i σ H'=>Same H1 H'∧Ex3 fun d s4 s5=>(i=0∨RO K H' pu g (W+200) d)∧(∃dv,(∀H2,zaf pu g H' H2→RdN K H2 (10+i) d dv)∧DkA dv (W+i) (5+i)∧ThX K H' pu g d)∧σ=[some (.ref pu),some x,some (Vn way),some d,s4,s5]) ⟨Same.refl _,x,none,none,.inl rfl,⟨dx,hx1.rd,hx1.dk,hx1.th⟩,rfl⟩ ?_ ?_
  · rintro i σ H2 hi ⟨s2,d,s4,s5,_,⟨dv,r1,r2,r3⟩,rfl⟩
    refine ⟨_,rfl,szl 1,fun t1 ht1=>?_⟩
    have s3:=yab ht1 (.tup [d])
    have na:=(hP1.same s2).lt ht1
    have k1:DkA (.tuple [dv]) (W+(i+1)) (5+(i+1)):=(ycU (ds:=[dv]) fun e he=>by rw [List.mem_singleton.mp he];exact r2).mono (by show (W+i+1)*1≤_;lia) (by lia)
    have rr:∀H',zaf pu g (upd H2 t1 (.tup [d])) H'→∀(j:Nat) y e,[d][j]?=some y→[dv][j]?=some e→RdN K H' (10+i) y e:=fun H' s j y e e1 e2=>by
      obtain ⟨rfl,rfl⟩:=yd3 e1 e2
      exact r1 H' ((Same.x s3).trans s)
    have hk:∀e∈[d],KdX K (upd H2 t1 (.tup [d])) pu g e:=fun e he=>by rw [List.mem_singleton.mp he];exact r3.kd.x (Same.x s3)
    have eh:upd H2 t1 (.tup [d]) t1=some (.tup [d]):=zab
    have et:SqT K (upd H2 t1 (.tup [d])) t1 [d]:=SqT.of eh
    refine ⟨s2.trans s3,.ref t1,_,_,.inr ⟨ydi eh na (by show 1≤200;decide) rfl (k1.mono (by lia) (by lia)) hk rr,.inr ⟨t1,_,rfl,et,na,Nat.le_refl _⟩⟩,⟨.tuple [dv],fun H' s=>.inr ⟨t1,_,_,rfl,rfl,ze9 s na et,rfl,rr H' s⟩,k1,ybU et na (by show 1≤200;decide) hk⟩,rfl⟩
  rintro σ H2 ⟨s2,d,s4,s5,hd,_,rfl⟩
  have hd:RO K H2 pu g (W+200) d:=hd.resolve_left (by decide)
  have hP2:=hP1.same s2
  have hx2:=hx1.x (Same.x s2)
  have sx2:=sx1.trans (Same.x s2)
  have one:∀ {H':Hp},PlD K H' pu g x dx W→(∀H'',zaf pu g H' H''→∀(j:Nat) y e,[x][j]?=some y→[dx][j]?=some e→RdN K H'' 10 y e):=fun h H'' s j y e e1 e2=>by
    obtain ⟨rfl,rfl⟩:=yd3 e1 e2
    exact h.rd H'' s
  refine ⟨1,rfl,szl 0,fun l0 hl0 d0 hd0=>⟨szl 0,fun e0 he0=>⟨_,rfl,szl 1,fun t1 ht1=>⟨_,rfl,szl 1,fun l1 hl1=>⟨_,rfl,szl 12,fun so hso=>?_⟩⟩⟩⟩⟩
  dsimp only [yat]
  have u0:=yab hl0 (.lst [])
  have q0:=hP2.lt hl0
  have hPa:=hP2.same u0
  have f0:RO K (upd H2 l0 (.lst [])) pu g (W+200) (.ref l0):=zeR (SqL.of zab) q0 (ds:=[]) rfl ((yfk (W:=0) (D:=0) (ds:=[]) fun e he=>nomatch he).mono (Nat.zero_le _) (by decide)) (fun H' s j y e e1=>by simp at e1)
  generalize upd H2 l0 (.lst [])=A1 at *
  have u1:=yab hd0 (.dK [])
  have q1:=hPa.lt hd0
  have hPb:=hPa.same u1
  have f1:RO K (upd A1 d0 (.dK [])) pu g (W+200) (.ref d0):=by
    have hk:∃T,yaU K (upd A1 d0 (.dK [])) (.ref d0) T∧T≠"tuple":=⟨"dict",.inr ⟨rfl,d0,[],rfl,zab⟩,by decide⟩
    exact ⟨⟨.dict [],zfY.mono (Nat.zero_le _) (by lia),fun H' s=>⟨1,.inr (.inr (.inr (.inr ⟨d0,rfl,rfl,s _ _ q1.1 q1.2 zab⟩)))⟩,.inl ⟨hk,zbj q1,fun ds e=>nomatch e⟩⟩,.inl ⟨hk,zbj q1⟩⟩
  generalize upd A1 d0 (.dK [])=A2 at *
  have u2:=yab he0 (.tup [])
  have q2:=hPb.lt he0
  have hPc:=hPb.same u2
  have f2:RO K (upd A2 e0 (.tup [])) pu g (W+200) (.ref e0):=⟨ydi (m:=1) (ds:=[]) zab q2 (by show 0≤200;decide) rfl ((ycU (W:=0) (D:=0) (ds:=[]) fun e he=>nomatch he).mono (Nat.zero_le _) (by lia)) (fun e he=>nomatch he) (fun H' s j y e e1=>by simp at e1),.inr ⟨e0,_,rfl,SqT.of zab,q2,by decide⟩⟩
  generalize upd A2 e0 (.tup [])=A3 at *
  have u3:=yab ht1 (.tup [x])
  have q3:=hPc.lt ht1
  have hPd:=hPc.same u3
  have hx3:=hx2.x (Same.x (u0.trans (u1.trans (u2.trans u3))))
  have f3:RO K (upd A3 t1 (.tup [x])) pu g (W+200) (.ref t1):=⟨ydi zab q3 (by show 1≤200;decide) rfl ((ycU (ds:=[dx]) fun e he=>by rw [List.mem_singleton.mp he];exact hx.dk).mono (by show (W+1)*1≤_;lia) (by lia)) (fun e he=>by rw [List.mem_singleton.mp he];exact hx3.th.kd) (one hx3),.inr ⟨t1,_,rfl,SqT.of zab,q3,Nat.le_refl _⟩⟩
  generalize upd A3 t1 (.tup [x])=A4 at *
  have u4:=yab hl1 (.lst [x])
  have q4:=hPd.lt hl1
  have hPe:=hPd.same u4
  have hx4:=hx3.x (Same.x u4)
  have f4:RO K (upd A4 l1 (.lst [x])) pu g (W+200) (.ref l1):=zeR (SqL.of zab) q4 (ds:=[dx]) rfl ((yfk (ds:=[dx]) fun e he=>by rw [List.mem_singleton.mp he];exact hx.dk).mono (by show (W+1)*1≤_;lia) (by decide)) (fun H' s j y e e1 e2=>by
    obtain ⟨rfl,rfl⟩:=yd3 e1 e2
    exact zed (by decide) (hx4.rd H' s))
  generalize upd A4 l1 (.lst [x])=A5 at *
  have ud:Same H2 A5:=u0.trans (u1.trans (u2.trans (u3.trans u4)))
  have hall:∀v∈[V.non,V.bl true,V.bl false,V.int (-1),V.str (Str.ofString ""),V.str (Str.ofString "1"),V.ref l0,V.ref d0,V.ref e0,V.ref t1,V.ref l1,d],RO K A5 pu g (W+200) v:=fun v hv=>by
    simp only [List.mem_cons,List.not_mem_nil,or_false] at hv
    rcases hv with rfl|rfl|rfl|rfl|rfl|rfl|rfl|rfl|rfl|rfl|rfl|rfl
    · exact zg1
    · exact zgh _
    · exact zgh _
    · exact zdC (by decide) (by lia)
    · exact zfj (by show 0≤_;lia) (by decide)
    · exact zfj (by show 1≤_;lia) (by decide)
    · exact f0.x (Same.x (u1.trans (u2.trans (u3.trans u4))))
    · exact f1.x (Same.x (u2.trans (u3.trans u4)))
    · exact f2.x (Same.x (u3.trans u4))
    · exact f3.x (Same.x u4)
    · exact f4
    · exact hd.x (Same.x ud)
  have sx5:=sx2.trans (Same.x ud)
  generalize hods:[V.non,V.bl true,V.bl false,V.int (-1),V.str (Str.ofString ""),V.str (Str.ofString "1"),V.ref l0,V.ref d0,V.ref e0,V.ref t1,V.ref l1,d]=ods at hall hso ⊢
  have hodl:ods.length=12:=by rw [←hods];rfl
  have v1:=yab hso (.lst ods)
  have eso:upd A5 so (.lst ods) so=some (.lst ods):=zab
  have hP6:=hPe.same v1
  have hx6:=hx4.x (Same.x v1)
  have hall6:∀v∈ods,RO K (upd A5 so (.lst ods)) pu g (W+200) v:=fun v hv=>(hall v hv).x (Same.x v1)
  have sx6:=sx5.trans (Same.x v1)
  generalize upd A5 so (.lst ods)=A6 at *
  refine ⟨_,rfl,10,30,rfl,rfl,⟨by decide,by decide,by decide⟩,?_⟩
  refine fun d2 hd2=>⟨_,rfl,zab,[((Sum.inl (0:Int):Key),x)],rfl,by show 1≤15;decide,?_⟩
  have v2:=yab hd2 (.dK [])
  have q6:=hP6.lt hd2
  have emk:ycg [] [((Sum.inl (0:Int):Key),x)]=[((Sum.inl (0:Int):Key),x)]:=rfl
  rw [emk]
  have v3:Same A6 (upd (upd A6 d2 (.dK [])) d2 (.dK [(.inl 0,x)])):=fun b o e=>by
    have nb:b≠d2:=yac e hd2
    rw [yad nb,yad nb];exact e
  have hx7:=hx6.x (Same.x v3)
  have f6:RO K (upd (upd A6 d2 (.dK [])) d2 (.dK [(.inl 0,x)])) pu g (W+200) (.ref d2):=by
    have hk:∃T,yaU K (upd (upd A6 d2 (.dK [])) d2 (.dK [(.inl 0,x)])) (.ref d2) T∧T≠"tuple":=⟨"dict",.inr ⟨rfl,d2,_,rfl,zab⟩,by decide⟩
    exact ⟨⟨.dict [(.int 0,dx)],(yfT hx.dk).mono (by lia) (by lia),fun H' s=>⟨1,.inr (.inr (.inr (.inl ⟨d2,0,x,dx,10,rfl,rfl,s _ _ q6.1 q6.2 zab,hx7.rd H' s⟩)))⟩,.inl ⟨hk,zbj q6,fun ds e=>nomatch e⟩⟩,.inl ⟨hk,zbj q6⟩⟩
  have hP7:=hP6.same v3
  have eso7:=v3 _ _ eso
  have hall7:∀v∈ods,RO K (upd (upd A6 d2 (.dK [])) d2 (.dK [(.inl 0,x)])) pu g (W+200) v:=fun v hv=>(hall6 v hv).x (Same.x v3)
  have sx7:=sx6.trans (Same.x v3)
  generalize upd (upd A6 d2 (.dK [])) d2 (.dK [(.inl 0,x)])=A7 at *
  have hstr:(∃i:Int,x = .int i∧i.natAbs.log2<1920∧dx.shown=(PyData.int i).shown)∨(Ex2 fun (a:Addr) (d:PyData)=>x = .ref a∧RdN K A7 10 (.ref a) d∧DOk d (2^20)∧dx.shown=d.shown):=by
    have h7:=hx7.rd A7 zaf.refl
    rcases hx7.sx with ⟨i,e1,e2,e3⟩ | ⟨a,e1⟩
    · exact .inl ⟨i,e1,e2,by rw [e3]⟩
    · rw [e1] at h7
      exact .inr ⟨a,dx,e1,h7,hx.ok,rfl⟩
  refine ⟨_,rfl,x,dx.shown,rfl,hstr,szl 4,fun l2 hl2=>?_⟩
  have v4:=yab hl2 (.lst [V.int (10^(30:Int).toNat),V.int 64,V.ref d2,V.str dx.shown])
  refine ⟨so,l2,_,_,rfl,rfl,v4 _ _ eso7,zab,szl _ (by rw [hodl];show 12+4≤100000;decide),fun r hr=>?_⟩
  have v5:=yab hr (.lst (ods++[V.int (10^(30:Int).toNat),V.int 64,V.ref d2,V.str dx.shown]))
  have v45:=v4.trans v5
  obtain ⟨v,ev,hv⟩:∃v,(ods++[V.int (10^(30:Int).toNat),V.int 64,V.ref d2,V.str dx.shown])[way]?=some v∧v∈ods++[V.int (10^(30:Int).toNat),V.int 64,V.ref d2,V.str dx.shown]:=by
    have hl:way<(ods++[V.int (10^(30:Int).toNat),V.int 64,V.ref d2,V.str dx.shown]).length:=by rw [List.length_append,hodl];show way<12+4;lia
    exact ⟨_,List.getElem?_eq_getElem hl,List.getElem_mem hl⟩
  refine ⟨_,rfl,r,_,_,v,rfl,rfl,SqL.of zab,zaB ev,?_⟩
  refine q v _ ?_ (hP7.same v45) (sx7.trans (Same.x v45))
  rcases List.mem_append.mp hv with h|h
  · exact (hall7 v h).x (Same.x v45)
  · simp only [List.mem_cons,List.not_mem_nil,or_false] at h
    rcases h with rfl|rfl|rfl|rfl
    · exact zdC (by decide) (by lia)
    · exact zdC (by decide) (by lia)
    · exact f6.x (Same.x v45)
    · exact zfj (Nat.le_trans hx.le (by lia)) (hx7.rd A7 zaf.refl).cps
end
end My
end
section
set_option exponentiation.threshold 1100
namespace My
open PySem L2 Dg
def ElI (H:Hp) (pu g:Addr) (x:V):Prop:=∃i:Nat,i<100∧x=Vn i
noncomputable def ElR (H:Hp) (pu g:Addr) (x:V):Prop:=Ex2 fun (a:Addr) (row:List Nat)=>x = .ref a∧H a=some (.tup (row.map Vn))∧(a≠pu∧a≠g)∧row.length≤64∧∀y∈row,y<100
theorem zcK {K:PySem.W.Frag} {lo hi:Option Int} (hP:Pu H pu g) (n:a≠pu∧a≠g) (h:H a=some (.tup xs)) (hy:cutV xs lo hi=ys) (q:∀(r:Addr) H',Same H H'→H' r=some (.tup ys)→(r≠pu∧r≠g)→Q (.ref r) H'):rSlA K (.ref a) lo hi H Q:=by
  subst hy
  exact ⟨a,_,rfl,SqT.of h,fun e=>q a H (Same.refl _) (by rw [e];exact h) n,fun l hl=>q l _ (yab hl _) zab (hP.lt hl)⟩
theorem zf2 {K:PySem.W.Frag} {lo hi:Option Int} (hP:Pu H pu g) (n:a≠pu∧a≠g) (h:H a=some (.tup xs)) (q:∀(r:Addr) (ys:List V) H',Same H H'→H' r=some (.tup ys)→(r≠pu∧r≠g)→ys.length≤xs.length→(∀e∈ys,e∈xs)→Q (.ref r) H'):rSlA K (.ref a) lo hi H Q:=zcK hP n h rfl fun r H' s e nr=>q r _ H' s e nr (zaX _ _ _) fun e he=>by
  unfold cutV at he
  exact List.mem_of_mem_drop (List.mem_of_mem_take he)
theorem ycM {K:PySem.W.Frag} (hP:Pu H pu g) (na:a≠pu∧a≠g) (nb:b≠pu∧b≠g) (ha:H a=some (.tup xs)) (hb:H b=some (.tup ys)) (hl:xs.length+ys.length≤1000) (q:∀(r:Addr) H',Same H H'→H' r=some (.tup (xs++ys))→(r≠pu∧r≠g)→Q (.ref r) H'):zfz K (.ref a) (.ref b) H Q:=by
  refine ⟨a,b,xs,ys,rfl,rfl,SqT.of ha,SqT.of hb,szl _ (by lia),fun e=>?_,fun _ e=>?_,fun _ _ p hp=>q p _ (yab hp _) zab (hP.lt hp)⟩
  · subst e;exact q b H (Same.refl _) hb nb
  · subst e;exact q a H (Same.refl _) (by rw [List.append_nil];exact ha) na
theorem zey (xs:List V) (N:Nat):cutV xs none (some (N:Int))=xs.take N:=by
  unfold cutV
  rw [HT.sIx_none,HT.sIx_nat,List.drop_zero,Nat.sub_zero,←List.take_eq_take_min]
theorem ybZ (xs:List V) (N:Nat):cutV xs (some (N:Int)) none=xs.drop N:=by
  unfold cutV
  rw [HT.sIx_none,HT.sIx_nat]
  rcases Nat.le_total N xs.length with c|c
  · rw [Nat.min_eq_left c,List.take_of_length_le (by rw [List.length_drop];lia)]
  · rw [Nat.min_eq_right c,List.drop_of_length_le c,List.drop_of_length_le (Nat.le_refl _)];simp
theorem yfu (xs:List V):cutV xs (some (-1)) none=xs.drop (xs.length-1):=by
  unfold cutV
  have e:HT.sIx xs.length 0 (some (-1))=xs.length-1:=by
    show (if (-1:Int)<0 then ((-1:Int)+(xs.length:Int)).toNat else min (-1:Int).toNat xs.length)=_
    rw [if_pos (by decide)];lia
  rw [HT.sIx_none,e,List.take_of_length_le (by rw [List.length_drop];lia)]
noncomputable def ycj (K:PySem.W.Frag) (H:Hp) (pu g:Addr) (xs:List V) (W:Nat) (v:V):Prop:=RO K H pu g 40000 v∨(∃l,v = .ref l∧SqL K H l xs∧(l≠pu∧l≠g))∨
  Ex2 fun (a:Addr) (ys:List V)=>v = .ref a∧H a=some (.tup ys)∧(a≠pu∧a≠g)∧((ys.length≤xs.length+1∧(∀e∈ys,e∈xs)∧(xs.length=4→ys.length=4→ys=xs.reverse))∨Ex2 fun (i:Nat) (v':V)=>i<xs.length∧RX K H pu g W v'∧ys=xs.take i++[v']++xs.drop (i+1))
theorem ycj.x {K:PySem.W.Frag} {W:Nat} (h:ycj K H pu g xs W v) (s:zaf pu g H H'):ycj K H' pu g xs W v:=by
  rcases h with h | ⟨l,rfl,h,n⟩ | ⟨a,ys,rfl,h,n,h2⟩
  · exact .inl (h.x s)
  · exact .inr (.inl ⟨l,rfl,zgx s n h,n⟩)
  · refine .inr (.inr ⟨a,ys,rfl,s _ _ n.1 n.2 h,n,?_⟩)
    rcases h2 with h2 | ⟨i,v',h3,h4,h5⟩
    · exact .inl h2
    · exact .inr ⟨i,v',h3,h4.x s,h5⟩
theorem RO.mono {K:PySem.W.Frag} {W W':Nat} (h:RO K H pu g W v) (hw:W≤W'):RO K H pu g W' v:=⟨h.1.mono hw,h.2⟩
section
variable {P:Program} {w:World} {mg:Str→Option Value} {base:Heap} {f:Addr} {fd:FuncData}
theorem ygj {l:Nat}:FnOk P w K mg base CX0 l f fd ps (fun _ _ _ _=>False) :=
  ⟨fun vs H Q E h=>absurd h id,fun A outer s H args us vs Q E _ _ _ _ h=>absurd h id⟩
theorem FnOk.or {l:Nat} (h:FnOk P w K mg base CX0 l f fd ps S) (h':FnOk P w K mg base CX0 l f fd ps S'):FnOk P w K mg base CX0 l f fd ps (fun vs H Q E=>S vs H Q E∨S' vs H Q E) :=
  ⟨fun vs H Q E c=>c.elim (h.1 vs H Q E) (h'.1 vs H Q E),fun A outer s H args us vs Q E a1 a2 a3 a4 c=>c.elim (h.2 A outer s H args us vs Q E a1 a2 a3 a4) (h'.2 A outer s H args us vs Q E a1 a2 a3 a4)⟩
inductive ybA (El:Hp→Addr→Addr→V→Prop) (K:PySem.W.Frag) (W:Nat) (vs:List V) (H:Hp) (Q:VK) (E:XK):Prop
  | mk (pu g:Addr) (x:V) (c1:vs=[.ref pu,x]) (c2:Pu H pu g) (c3:El H pu g x) (c4:∀(v:V) H',RX K H' pu g W v→Pu H' pu g→zaf pu g H H'→Q v H'):ybA El K W vs H Q E
inductive yd7 (El:Hp→Addr→Addr→V→Prop) (K:PySem.W.Frag) (W:Nat) (vs:List V) (H:Hp) (Q:VK) (E:XK):Prop
  | mk (pu g a:Addr) (xs:List V) (d:PyData) (c1:vs=[.ref pu,.ref a]) (c2:Pu H pu g) (c3:H a=some (.tup xs)) (c4:a≠pu∧a≠g) (c5:xs.length≤64) (c6:PlD K H pu g (.ref a) d 30000) (c7:∀H',zaf pu g H H'→∀e∈xs,El H' pu g e) (c8:∀(v:V) H',ycj K H' pu g xs W v→Pu H' pu g→zaf pu g H H'→Q v H'):yd7 El K W vs H Q E
theorem zam:yaf ["_law_purse_here","_law_thing","_law_more","_law_at"] ["_law_purse_here","_law_thing"] (zac yaK):=⟨rfl,rfl,rfl,by decide +kernel,rfl,by decide +kernel,by decide +kernel⟩
theorem yeh (B:Bl mg) (h__law_bent:Has P w K mg base 2 "_law_bent" ["_law_purse_here","_law_thing"] (fun _ _ _ _=>False)) (h__law_pick:Has P w K mg base 1 "_law_pick" ["_law_purse_here","_law_many"] yaW) (h__law_odd:Has P w K mg base 2 "_law_odd" ["_law_purse_here","_law_thing"] (zcU K)) (F:Fun K "_law_bent" "_law_bent" yaK f fd):FnOk P w K mg base CX0 3 f fd ["_law_purse_here","_law_thing"] (ybA ElI K 600):=by
  refine F.ok zam (fun vs H Q E h=>?_) (fun cdv A outer s H vs Q E hr h=>?_)
  · obtain ⟨pu,g,x,rfl,_⟩:=h;rfl
  obtain ⟨pu,g,x,rfl,hP,⟨i,hi,rfl⟩,q⟩:=h
  refine ⟨_,(((@PW.pt _ _ _ (@yaQ _ _ _ _ _ _ _ (@zau _ _ _ _ (@yar _ _ _ (yau>>>("isinstance",PyProof.Rows.boot_isinstance,((pv 1)>=>("tuple"⊂zaj)>=>yaa))) (by intro _;rfl))) (@yaQ _ _ _ _ _ _ _ ((ye1 hr.units0)∪(pv 1)∪(@yax _ _ _ _ _ yaa)) (@yaD _ _ _ _ (zaZ∪(@zad _ _ _ _ _ _ _ _ _ _ _ h__law_pick hr (by lia) rfl ((pv 0)>=>zaa>=>yaa) (by decide) (by rfl) (by rfl))∪zaa)))))*>(((2<|>zam.nd<|>(@zap _ _ _ _ ((@zad _ _ _ _ _ _ _ _ _ _ _ h__law_odd hr (by lia) rfl ((pv 0)>=>(pv 1)>=>yaa) (by decide) (by rfl) (by rfl))>=>yaa)))<=<((@yar _ _ _ (zcd>>>("isinstance",PyProof.Rows.boot_isinstance,((pv 1)>=>("int"⊂zbf)>=>yaa))) (by intro _;rfl))*>((~~~(2<|>zam.nd<|>(zcR|||(pv 2)|||(@zap _ _ _ _ ((yal|||(pv 1)|||zaa)>=>(ya1|||(pv 1)|||zaa)>=>(@ybS _ _ _ _ _ _ _ _ zaZ (pv 1) zaa (ydA _))>=>zaa>=>yaa))))),yae))<=<((@yar _ _ _ (yau>>>("isinstance",PyProof.Rows.boot_isinstance,((pv 1)>=>("tuple"⊂zaj)>=>yaa))) (by intro _;rfl))*>((~~~(2<|>zam.nd<|>(zcR|||(pv 2)|||(@zap _ _ _ _ ((ybv<*("list",za3,((pv 1)>=>yaa)))>=>(zaA|||(pv 1)|||(@yak _ _ _ _ _ _ _ _ _ _ yaq (pv 1) (@yam _ _ _ (@zch _ _ _ _ _ _ zbw zaa)) zaq))>=>(@yak _ _ _ _ _ _ _ _ _ _ yaq (pv 1) (@yam _ _ _ zaa) zaq)>=>(@zeD _ _ _ _ _ _ _ _ (pv 1))>=>yaa))))),yae))<=<(~~~((zai<<<(pv 2)<<<(@zad _ _ _ _ _ _ _ _ _ _ _ h__law_pick hr (by lia) rfl ((pv 0)>=>(yah>>>("len",PySem.boot_len,((pv 2)>=>yaa)))>=>yaa) (by decide) (by rfl) (by rfl)))⁻¹))),yae))<=<(3<|>zam.nd<|>(@zad _ _ _ _ _ _ _ _ _ _ _ h__law_pick hr (by lia) rfl ((pv 0)>=>(yah>>>("len",PySem.boot_len,((pv 1)>=>yaa)))>=>yaa) (by decide) (by rfl) (by rfl)))<=<(~~~((zaA|||(zaA|||(@yak _ _ _ _ _ _ _ _ _ _ yaq (pv 1) zaq (@yam _ _ _ (pv 3)))|||(@yax _ _ _ _ _ ((@zad _ _ _ _ _ _ _ _ _ _ _ h__law_bent hr (Nat.le_refl _) rfl ((pv 0)>=>(zao<<<(pv 1)<<<(pv 3))>=>yaa) (by decide) (by rfl) (by rfl))>=>yaa)))|||(@yak _ _ _ _ _ _ _ _ _ _ yaq (pv 1) (@yam _ _ _ (yal|||(pv 3)|||zaa)) zaq))⁻¹))),?_⟩
  try dsimp only [cxOf]
  refine ⟨_,rfl,Vn i,"int",rfl,.inl rfl,_,rfl,?_⟩
  refine ite2 (fun _=>?_) (fun c=>absurd rfl c)
  refine ite2 (fun _=>?_) (fun c=>absurd rfl c)
  refine ⟨_,rfl,_,rfl,pu,g,Vn i,_,_,rfl,hP,zg2 hi,fun v H1 hv hP1 sx1=>⟨szl 1,fun m1 hm1=>?_⟩⟩
  dsimp only [yat]
  have s1:=yab hm1 (.lst [v])
  refine ⟨_,rfl,Vn i,"int",rfl,.inl rfl,_,rfl,?_⟩
  refine ite2 (fun _=>?_) (fun c=>absurd rfl c)
  refine ⟨_,rfl,_,rfl,_,_,rfl,rfl,_,rfl,_,_,rfl,rfl,_,rfl,rfl,szl 4,fun l2 hl2=>?_⟩
  generalize hmo:[V.int ((i:Int)+1),V.int ((i:Int)-1),V.bl (decide (Vn i=V.int 1)),V.int 0]=mo at hl2 ⊢
  have big:∀j:Int,j.natAbs<200→∀ {H':Hp},RX K H' pu g 600 (.int j):=fun j h=>(zdC (Nat.lt_trans h (by decide)) (by decide)).1
  have hmk:∀ {H':Hp},∀e∈mo,RX K H' pu g 600 e:=fun {H'} e he=>by
    subst hmo
    simp only [List.mem_cons,List.not_mem_nil,or_false] at he
    rcases he with rfl|rfl|rfl|rfl
    · exact big _ (by lia)
    · exact big _ (by lia)
    · exact (zgh _).1
    · exact big _ (by decide)
  have hml:mo.length=4:=by subst hmo;rfl
  have s2:=yab hl2 (.lst mo)
  refine ⟨m1,l2,_,_,rfl,rfl,s2 _ _ zab,zab,szl _ (by rw [hml];show 1+4≤100000;decide),fun m2 hm2=>?_⟩
  dsimp only [yat]
  have s3:=yab hm2 (.lst ([v]++mo))
  have s13:=s1.trans (s2.trans s3)
  have em2:upd (upd (upd H1 m1 (.lst [v])) l2 (.lst mo)) m2 (.lst ([v]++mo)) m2=some (.lst ([v]++mo)):=zab
  have nm2:=(hP1.same (s1.trans s2)).lt hm2
  have hP3:=hP1.same s13
  have sx3:=sx1.trans (Same.x s13)
  have hv3:=hv.1.x (Same.x s13)
  generalize upd (upd (upd H1 m1 (.lst [v])) l2 (.lst mo)) m2 (.lst ([v]++mo))=H3 at em2 hP3 sx3 hv3 ⊢
  refine ⟨_,rfl,Vn i,"int",rfl,.inl rfl,_,rfl,?_⟩
  refine ite2 (fun c=>absurd c (by decide)) (fun _=>?_)
  dsimp only [yaS]
  refine ⟨_,rfl,_,rfl,_,rfl,m2,_,rfl,.inl (SqL.of em2),pu,g,5,by rw [List.length_append,hml];rfl,hP3,by lia,by lia,fun k H4 hk hP4 sx4=>?_⟩
  have hl:k<([v]++mo).length:=by rw [List.length_append,hml];show k<1+4;lia
  refine ⟨m2,_,_,([v]++mo)[k],rfl,rfl,SqL.of (sx4 _ _ nm2.1 nm2.2 em2),zaB (List.getElem?_eq_getElem hl),?_⟩
  refine q _ _ ?_ hP4 (sx3.trans sx4)
  rcases List.mem_append.mp (List.getElem_mem hl) with h|h
  · rw [List.mem_singleton.mp h];exact hv3.x sx4
  · exact hmk _ h
theorem zeb {l W:Nat} {El:Hp→Addr→Addr→V→Prop} (hl3:3≤l) (B:Bl mg) (h__law_bent:Has P w K mg base l "_law_bent" ["_law_purse_here","_law_thing"] (ybA El K W)) (h__law_pick:Has P w K mg base 1 "_law_pick" ["_law_purse_here","_law_many"] yaW) (h__law_odd:Has P w K mg base 2 "_law_odd" ["_law_purse_here","_law_thing"] (zcU K)) (F:Fun K "_law_bent" "_law_bent" yaK f fd):FnOk P w K mg base CX0 (l+1) f fd ["_law_purse_here","_law_thing"] (yd7 El K W):=by
  refine F.ok zam (fun vs H Q E h=>?_) (fun cdv A outer s H vs Q E hr h=>?_)
  · obtain ⟨pu,g,a,xs,d,rfl,_⟩:=h;rfl
  obtain ⟨pu,g,a,xs,dx,rfl,hP,ha,na,hl,hx,hel,q⟩:=h
  refine ⟨_,(((@PW.pt _ _ _ (@yaQ _ _ _ _ _ _ _ (@zau _ _ _ _ (@yar _ _ _ (yau>>>("isinstance",PyProof.Rows.boot_isinstance,((pv 1)>=>("tuple"⊂zaj)>=>yaa))) (by intro _;rfl))) (@yaQ _ _ _ _ _ _ _ ((ye1 hr.units0)∪(pv 1)∪(@yax _ _ _ _ _ yaa)) (@yaD _ _ _ _ (zaZ∪(@zad _ _ _ _ _ _ _ _ _ _ _ h__law_pick hr (by lia) rfl ((pv 0)>=>zaa>=>yaa) (by decide) (by rfl) (by rfl))∪zaa)))))*>(((2<|>zam.nd<|>(@zap _ _ _ _ ((@zad _ _ _ _ _ _ _ _ _ _ _ h__law_odd hr (by lia) rfl ((pv 0)>=>(pv 1)>=>yaa) (by decide) (by rfl) (by rfl))>=>yaa)))<=<((@yar _ _ _ (zcd>>>("isinstance",PyProof.Rows.boot_isinstance,((pv 1)>=>("int"⊂zbf)>=>yaa))) (by intro _;rfl))*>((~~~(2<|>zam.nd<|>(zcR|||(pv 2)|||(@zap _ _ _ _ ((yal|||(pv 1)|||zaa)>=>(ya1|||(pv 1)|||zaa)>=>(@ybS _ _ _ _ _ _ _ _ zaZ (pv 1) zaa (ydA _))>=>zaa>=>yaa))))),yae))<=<((@yar _ _ _ (yau>>>("isinstance",PyProof.Rows.boot_isinstance,((pv 1)>=>("tuple"⊂zaj)>=>yaa))) (by intro _;rfl))*>((~~~(2<|>zam.nd<|>(zcR|||(pv 2)|||(@zap _ _ _ _ ((ybv<*("list",za3,((pv 1)>=>yaa)))>=>(zaA|||(pv 1)|||(@yak _ _ _ _ _ _ _ _ _ _ yaq (pv 1) (@yam _ _ _ (@zch _ _ _ _ _ _ zbw zaa)) zaq))>=>(@yak _ _ _ _ _ _ _ _ _ _ yaq (pv 1) (@yam _ _ _ zaa) zaq)>=>(@zeD _ _ _ _ _ _ _ _ (pv 1))>=>yaa))))),yae))<=<(~~~((zai<<<(pv 2)<<<(@zad _ _ _ _ _ _ _ _ _ _ _ h__law_pick hr (by lia) rfl ((pv 0)>=>(yah>>>("len",PySem.boot_len,((pv 2)>=>yaa)))>=>yaa) (by decide) (by rfl) (by rfl)))⁻¹))),yae))<=<(3<|>zam.nd<|>(@zad _ _ _ _ _ _ _ _ _ _ _ h__law_pick hr (by lia) rfl ((pv 0)>=>(yah>>>("len",PySem.boot_len,((pv 1)>=>yaa)))>=>yaa) (by decide) (by rfl) (by rfl)))<=<(~~~((zaA|||(zaA|||(@yak _ _ _ _ _ _ _ _ _ _ yaq (pv 1) zaq (@yam _ _ _ (pv 3)))|||(@yax _ _ _ _ _ ((@zad _ _ _ _ _ _ _ _ _ _ _ h__law_bent hr (Nat.le_refl _) rfl ((pv 0)>=>(zao<<<(pv 1)<<<(pv 3))>=>yaa) (by decide) (by rfl) (by rfl))>=>yaa)))|||(@yak _ _ _ _ _ _ _ _ _ _ yaq (pv 1) (@yam _ _ _ (yal|||(pv 3)|||zaa)) zaq))⁻¹))),?_⟩
  try dsimp only [cxOf]
  have kt:∀ {H':Hp},H' a=some (.tup xs)→yaU K H' (.ref a) "tuple":=fun h=>.inl (.inr ⟨rfl,_,SqT.of h⟩)
  refine ⟨_,rfl,.ref a,"tuple",rfl,kt ha,_,rfl,?_⟩
  refine ite2 (fun c=>absurd c (by decide)) (fun _=>?_)
  refine ⟨_,rfl,szl 0,fun e0 he0=>?_⟩
  have s1:=yab he0 (.tup [])
  have ha1:=s1 _ _ ha
  have hP1:=hP.same s1
  refine ⟨a,e0,xs,rfl,rfl,SqT.of ha1,SqT.of zab,xs.isEmpty,rfl,?_⟩
  generalize upd H e0 (.tup [])=H1 at *
  refine ite2 (fun c=>?_) (fun c=>?_)
  case' refine_2 =>
    have hl0:0<xs.length:=by
      cases xs with
      | nil=>exact absurd rfl c
      | cons x xs=>exact Nat.succ_pos _
    refine ⟨_,rfl,pu,g,6,rfl,hP1,by lia,by lia,fun k6 H2 hk6 hP2 sx2=>⟨rfl,_,rfl,?_⟩⟩
    have sx12:zaf pu g H H2:=(Same.x s1).trans sx2
    have ha2:=sx2 _ _ na.1 na.2 ha1
    have hx2:=hx.x sx12
    refine ite2 (fun c6=>?_) (fun c6=>?_)
    case' refine_2 =>
      dsimp only [yaS]
      refine ⟨_,rfl,_,rfl,a,_,rfl,.inr (SqT.of ha2),pu,g,xs.length,rfl,hP2,hl0,by lia,fun at_ H3 hat hP3 sx3=>?_⟩
      dsimp only [yat]
      have ha3:=sx3 _ _ na.1 na.2 ha2
      have sx13:=sx12.trans sx3
      refine ⟨_,rfl,_,rfl,(at_:Int),rfl,zcK hP3 na ha3 (zey xs at_) fun r1 H4 s4 er1 nr1=>?_⟩
      have ha4:=s4 _ _ ha3
      refine ⟨_,rfl,_,rfl,_,rfl,a,_,_,xs[at_],rfl,rfl,SqT.of ha4,zaB (List.getElem?_eq_getElem hat),pu,g,xs[at_],rfl,hP3.same s4,hel _ (sx13.trans (Same.x s4)) _ (List.getElem_mem hat),fun v H5 hv hP5 sx5=>?_⟩
      refine ⟨szl 1,fun c1 hc1=>?_⟩
      have ha5:=sx5 _ _ na.1 na.2 ha4
      have s6:=yab hc1 (.tup [v])
      refine ycM (hP5.same s6) nr1 (hP5.lt hc1) (s6 _ _ (sx5 _ _ nr1.1 nr1.2 er1)) zab (by rw [List.length_take];show min at_ xs.length+1≤1000;lia) fun c2 H7 s7 ec2 nc2=>?_
      have ha7:=s7 _ _ (s6 _ _ ha5)
      have hP7:=hP5.same (s6.trans s7)
      refine ⟨_,rfl,_,rfl,_,_,rfl,rfl,((at_:Int)+1),rfl,ybJ (zcK hP7 na ha7 (ybZ xs (at_+1)) fun r3 H8 s8 er3 nr3=>?_)⟩
      refine ycM (hP7.same s8) nc2 nr3 (s8 _ _ ec2) er3 (by rw [List.length_append,List.length_take,List.length_drop];show min at_ xs.length+1+(xs.length-(at_+1))≤1000;lia) fun c4 H9 s9 ec4 nc4=>?_
      have s69:=s6.trans (s7.trans (s8.trans s9))
      exact q (.ref c4) _ (.inr (.inr ⟨c4,_,rfl,ec4,nc4,.inr ⟨at_,v,hat,hv.x (Same.x s69),rfl⟩⟩)) (hP5.same s69) (sx13.trans ((Same.x s4).trans (sx5.trans (Same.x s69))))
  case' refine_1 =>
    have hP2:=hP1
    have sx12:zaf pu g H H1:=Same.x s1
    have ha2:=ha1
    have hx2:=hx.x sx12
    clear hP1 ha1
    refine ite2 (fun _=>?_) (fun c=>absurd rfl c)
  all_goals
    refine ⟨_,rfl,_,rfl,pu,g,.ref a,dx,30000,rfl,hP2,hx2,fun v H3 hv hP3 sx3=>⟨szl 1,fun m1 hm1=>?_⟩⟩
    have ha3:=sx3 _ _ na.1 na.2 ha2
    have sx13:=sx12.trans sx3
    dsimp only [yat]
    have s4:=yab hm1 (.lst [v])
    have hP4:=hP3.same s4
    have ha4:=s4 _ _ ha3
    have em1:upd H3 m1 (.lst [v]) m1=some (.lst [v]):=zab
    have nm1:=hP3.lt hm1
    have hv4:=(hv.mono (by decide:30000+200≤40000)).x (Same.x s4)
    have sx4:=sx13.trans (Same.x s4)
    generalize upd H3 m1 (.lst [v])=H4 at *
    refine ⟨_,rfl,.ref a,"tuple",rfl,kt ha4,_,rfl,?_⟩
    refine ite2 (fun c=>absurd c (by decide)) (fun _=>?_)
    dsimp only [yaS]
    refine ⟨_,rfl,.ref a,"tuple",rfl,kt ha4,_,rfl,?_⟩
    refine ite2 (fun _=>?_) (fun c=>absurd rfl c)
    refine ⟨_,rfl,_,rfl,a,_,rfl,.inr (SqT.of ha4),fun l1 hl1=>?_⟩
    have s5:=yab hl1 (.lst xs)
    have f1:ycj K (upd H4 l1 (.lst xs)) pu g xs W (.ref l1):=.inr (.inl ⟨l1,rfl,SqL.of zab,hP4.lt hl1⟩)
    have hP5:=hP4.same s5
    have ha5:=s5 _ _ ha4
    generalize upd H4 l1 (.lst xs)=H5 at *
    refine ⟨_,rfl,_,rfl,1,rfl,(-1),rfl,ybJ (zcK hP5 na ha5 (yfu xs) fun r1 H6 s6 er1 nr1=>?_)⟩
    have ha6:=s6 _ _ ha5
    refine ycM (hP5.same s6) na nr1 ha6 er1 (by rw [List.length_drop];lia) fun r2 H7 s7 er2 nr2=>?_
    have f2:ycj K H7 pu g xs W (.ref r2):=.inr (.inr ⟨r2,_,rfl,er2,nr2,.inl ⟨by rw [List.length_append,List.length_drop];lia,fun e he=>(List.mem_append.mp he).elim id List.mem_of_mem_drop,fun h4 h4'=>absurd h4' (by rw [List.length_append,List.length_drop];lia)⟩⟩)
    have ha7:=s7 _ _ ha6
    have hP7:=hP5.same (s6.trans s7)
    refine ⟨_,rfl,1,rfl,ybJ (zcK hP7 na ha7 (ybZ xs 1) fun r3 H8 s8 er3 nr3=>?_)⟩
    have f3:ycj K H8 pu g xs W (.ref r3):=.inr (.inr ⟨r3,_,rfl,er3,nr3,.inl ⟨by rw [List.length_drop];lia,fun e he=>List.mem_of_mem_drop he,fun h4 h4'=>absurd h4' (by rw [List.length_drop];lia)⟩⟩)
    have ha8:=s8 _ _ ha7
    have hP8:=hP7.same s8
    refine ⟨_,rfl,a,_,rfl,SqT.of ha8,fun r4 hr4=>?_⟩
    have s9:=yab hr4 (.tup xs.reverse)
    have f4:ycj K (upd H8 r4 (.tup xs.reverse)) pu g xs W (.ref r4):=.inr (.inr ⟨r4,_,rfl,zab,hP8.lt hr4,.inl ⟨by rw [List.length_reverse];lia,fun e he=>List.mem_reverse.mp he,fun _ _=>rfl⟩⟩)
    have hP9:=hP8.same s9
    generalize upd H8 r4 (.tup xs.reverse)=H9 at *
    have s59:=s5.trans (s6.trans (s7.trans (s8.trans s9)))
    refine ⟨szl 4,fun l2 hl2=>?_⟩
    have s10:=yab hl2 (.lst [V.ref l1,V.ref r2,V.ref r3,V.ref r4])
    refine ⟨m1,l2,_,_,rfl,rfl,s10 _ _ (s59 _ _ em1),zab,szl _ (by show 1+4≤100000;decide),fun m2 hm2=>?_⟩
    have s11:=yab hm2 (.lst ([v]++[V.ref l1,V.ref r2,V.ref r3,V.ref r4]))
    dsimp only [yat]
    have s1011:=s10.trans s11
    have em2:upd (upd H9 l2 (.lst [V.ref l1,V.ref r2,V.ref r3,V.ref r4])) m2 (.lst ([v]++[V.ref l1,V.ref r2,V.ref r3,V.ref r4])) m2=some (.lst ([v]++[V.ref l1,V.ref r2,V.ref r3,V.ref r4])):=zab
    have nm2:=(hP9.same s10).lt hm2
    have hPb:=hP9.same s1011
    have sxb:=sx4.trans (Same.x (s59.trans s1011))
    have hall:∀e∈[v]++[V.ref l1,V.ref r2,V.ref r3,V.ref r4],ycj K (upd (upd H9 l2 (.lst [V.ref l1,V.ref r2,V.ref r3,V.ref r4])) m2 (.lst ([v]++[V.ref l1,V.ref r2,V.ref r3,V.ref r4]))) pu g xs W e:=fun e he=>by
      simp only [List.cons_append,List.nil_append,List.mem_cons,List.not_mem_nil,or_false] at he
      rcases he with rfl|rfl|rfl|rfl|rfl
      · exact .inl (hv4.x (Same.x (s59.trans s1011)))
      · exact f1.x (Same.x ((s6.trans (s7.trans (s8.trans s9))).trans s1011))
      · exact f2.x (Same.x ((s8.trans s9).trans s1011))
      · exact f3.x (Same.x (s9.trans s1011))
      · exact f4.x (Same.x s1011)
    generalize upd (upd H9 l2 (.lst [V.ref l1,V.ref r2,V.ref r3,V.ref r4])) m2 (.lst ([v]++[V.ref l1,V.ref r2,V.ref r3,V.ref r4]))=Hb at em2 hPb sxb hall ⊢
    refine ⟨_,rfl,_,rfl,_,rfl,m2,_,rfl,.inl (SqL.of em2),pu,g,5,rfl,hPb,by lia,by lia,fun k H4 hk hP4 sx4=>?_⟩
    have hlk:k<([v]++[V.ref l1,V.ref r2,V.ref r3,V.ref r4]).length:=by show k<5;lia
    refine ⟨m2,_,_,([v]++[V.ref l1,V.ref r2,V.ref r3,V.ref r4])[k],rfl,rfl,SqL.of (sx4 _ _ nm2.1 nm2.2 em2),zaB (List.getElem?_eq_getElem hlk),?_⟩
    exact q _ _ ((hall _ (List.getElem_mem hlk)).x sx4) hP4 (sxb.trans sx4)
end
end My
end
section
set_option exponentiation.threshold 1100
namespace My
open PySem L2 Dg
theorem yeD {K:PySem.W.Frag} {lo hi:Option Int} (N:Addr→Prop) (hN:∀r,H r=none→N r) (n:N a) (h:SqT K H a xs) (q:∀(r:Addr) (ys:List V) H',Same H H'→SqT K H' r ys→N r→ys.length≤xs.length→(∀e∈ys,e∈xs)→Q (.ref r) H'):rSlA K (.ref a) lo hi H Q:=by
  have hs:∀e∈cutV xs lo hi,e∈xs:=fun e he=>by
    unfold cutV at he
    exact List.mem_of_mem_drop (List.mem_of_mem_take he)
  refine ⟨a,_,rfl,h,fun e=>?_,fun l hl=>?_⟩
  · exact q a xs H (Same.refl _) h n (Nat.le_refl _) (fun _ h=>h)
  · exact q l _ _ (yab hl _) (SqT.of zab) (hN l hl) (zaX _ _ _) hs
theorem yfb {K:PySem.W.Frag} (N:Addr→Prop) (hN:∀r,H r=none→N r) (na:N a) (nb:N b) (ha:SqT K H a xs) (hb:SqT K H b ys) (hl:xs.length+ys.length≤1000) (q:∀(r:Addr) H',Same H H'→SqT K H' r (xs++ys)→N r→Q (.ref r) H'):zfz K (.ref a) (.ref b) H Q:=by
  refine ⟨a,b,xs,ys,rfl,rfl,ha,hb,szl _ (by lia),fun e=>?_,fun _ e=>?_,fun _ _ p hp=>q p _ (yab hp _) (SqT.of zab) (hN p hp)⟩
  · subst e;exact q b H (Same.refl _) hb nb
  · subst e;exact q a H (Same.refl _) (by rw [List.append_nil];exact ha) na
theorem zdy {o:HO} (hn:H a=none) (s:Same H H'):Same H (upd H' a o):=fun b x e=>by
  rw [yad (yac e hn)];exact s b x e
theorem yc9 {K:PySem.W.Frag} {o:HO} (hn:r≠a) (h:SqT K H r ys):SqT K (upd H a o) r ys:=ze9 (pu:=a) (g:=a) (fun b x n _ e=>by rw [yad n];exact e) ⟨hn,hn⟩ h
def IT (L:Nat) (xs:List V):Prop:=xs.length≤L∧∀e∈xs,∃i:Int,i.natAbs<100∧e = .int i
theorem IT.ns {L:Nat}:∀ {xs:List V},IT L xs→∃ns:List Int,xs=ns.map V.int∧∀i∈ns,i.natAbs<100
  | [],_=>⟨[],rfl,fun _ h=>nomatch h⟩
  | x::xs,h=>by
    obtain ⟨i,hi,e⟩:=h.2 x List.mem_cons_self
    obtain ⟨ns,e2,h2⟩:=IT.ns (xs:=xs) (L:=L) ⟨by have:=h.1;rw [List.length_cons] at this;lia,fun e he=>h.2 e (List.mem_cons_of_mem _ he)⟩
    exact ⟨i::ns,by rw [e,e2];rfl,fun j hj=>(List.mem_cons.mp hj).elim (fun q=>q ▸ hi) (h2 j)⟩
theorem IT.th {K:PySem.W.Frag} {L:Nat} (h:IT L xs) (hL:L≤200) (ha:SqT K H a xs) (n:a≠pu∧a≠g):ThX K H pu g (.ref a):=ybU ha n (by have:=h.1;lia) fun e he=>by
  obtain ⟨i,_,rfl⟩:=h.2 e he
  exact yao i
theorem IT.app {L M:Nat} (h:IT L xs) (h':IT M ys):IT (L+M) (xs++ys):=⟨by rw [List.length_append];exact Nat.add_le_add h.1 h'.1,fun e he=>(List.mem_append.mp he).elim (h.2 e) (h'.2 e)⟩
theorem IT.sub {L:Nat} (h:IT L xs) (hl:ys.length≤xs.length) (hs:∀e∈ys,e∈xs):IT L ys:=⟨Nat.le_trans hl h.1,fun e he=>h.2 e (hs e he)⟩
theorem IT.one {i:Int} (h:i.natAbs<100):IT 1 [.int i]:=⟨Nat.le_refl _,fun e he=>⟨i,h,List.mem_singleton.mp he⟩⟩
theorem IT.row {L:Nat} {row:List Nat} (hl:row.length≤L) (h:∀x∈row,x<100):IT L (row.map Vn):=⟨by rw [List.length_map];exact hl,fun e he=>by
  obtain ⟨x,hx,rfl⟩:=List.mem_map.mp he
  exact ⟨x,by have:=h x hx;lia,rfl⟩⟩
noncomputable def ThW (K:PySem.W.Frag) (H:Hp) (pu g:Addr) (x:V):Prop:=((∃T,yaU K H x T∧T≠"tuple")∧apV pu g x)∨(Ex2 fun (a:Addr) (xs:List V)=>x = .ref a∧SqT K H a xs∧(a≠pu∧a≠g)∧xs.length≠4∧xs.length≤200)∨
  Ex5 fun (a:Addr) (x0 x1 x2 x3:V)=>x = .ref a∧SqT K H a [x0,x1,x2,x3]∧(a≠pu∧a≠g)∧RX K H pu g 40000 x0∧KdX K H pu g x1∧KdX K H pu g x2∧ThX K H pu g x3
theorem Od.w {K:PySem.W.Frag} (h:Od K H pu g v):ThW K H pu g v:=by
  rcases h with h | ⟨a,xs,rfl,h,n,hl⟩
  · exact .inl h
  · exact .inr (.inl ⟨a,xs,rfl,h,n,by lia,by lia⟩)
theorem zfa {K:PySem.W.Frag} {row:List Nat} (hl:row.length≤64) (hr:∀y∈row,y<100) (h:ycj K H pu g (row.map Vn) 600 v):RX K H pu g 40000 v:=by
  have hm:∀e∈row.map Vn,∃i:Nat,i<100∧e=Vn i:=fun e he=>by
    obtain ⟨y,hy,rfl⟩:=List.mem_map.mp he
    exact ⟨y,hr y hy,rfl⟩
  rcases h with h | ⟨l,rfl,h,n⟩ | ⟨a,ys,rfl,h,n,⟨h1,h2,_⟩ | ⟨i,v',hi,h1,rfl⟩⟩
  · exact h.1
  · refine (zeR h n (ds:=row.map fun y:Nat=>PyData.int (y:Int)) (by simp) ?_ fun H' s i x e h1 h2=>?_).1
    · refine (yfk (W:=400) (D:=0) fun d hd=>?_).mono ?_ (by decide)
      · obtain ⟨y,hy,rfl⟩:=List.mem_map.mp hd
        exact yb4 (Nat.lt_trans (show (y:Int).natAbs<100 by have:=hr y hy;lia) (by decide))
      · rw [List.length_map]
        exact Nat.le_trans (Nat.mul_le_mul_left _ hl) (by decide)
    · rw [List.getElem?_map] at h1 h2
      cases q:row[i]? with
      | none=>rw [q] at h1;cases h1
      | some k=>rw [q] at h1 h2;cases h1;cases h2;exact yc7 _
  · exact yf3 h n (by rw [List.length_map] at h1;lia) (v:=.int 0) (zdC (by decide) (by decide)).1 fun e he=>.inl (hm e (h2 e he))
  · rw [List.length_map] at hi
    refine yf3 h n (by simp only [List.length_append,List.length_take,List.length_drop,List.length_map,List.length_cons,List.length_nil];lia) h1 fun e he=>?_
    rcases List.mem_append.mp he with he|he
    · rcases List.mem_append.mp he with he|he
      · exact .inl (hm e (List.mem_of_mem_take he))
      · exact .inr (List.mem_singleton.mp he)
    · exact .inl (hm e (List.mem_of_mem_drop he))
theorem ydK {K:PySem.W.Frag} {p m t few root:Nat} {marks:List Nat} (hf:H fa=some (.tup ([p,m,t].map Vn))) (hm:H mk=some (.tup (marks.map Vn))) (nf:fa≠pu∧fa≠g) (nm:mk≠pu∧mk≠g)
    (h3:∀n∈[p,m,t],n<100) (h2:∀n∈marks,n<100) (hl:marks.length≤64) (h:ycj K H pu g [.ref fa,Vn few,Vn root,.ref mk] 40000 v):ThW K H pu g v:=by
  have nat:∀ {ns:List Nat} {a:Addr},H a=some (.tup (ns.map Vn))→(a≠pu∧a≠g)→(∀n∈ns,n<100)→ns.length≤64→RX K H pu g 40000 (.ref a):=fun {ns a} h n hs hl=>by
    rw [←mapI] at h
    refine ydJ h n (by rw [List.length_map];lia) fun i hi=>?_
    obtain ⟨y,hy,rfl⟩:=List.mem_map.mp hi
    exact Nat.lt_trans (show (y:Int).natAbs<100 by have:=hs y hy;lia) (by decide)
  have xf:=nat hf nf h3 (by show 3≤64;decide)
  have xm:=nat hm nm h2 hl
  rcases h with h | ⟨l,rfl,h,n⟩ | ⟨a,ys,rfl,h,n,⟨h4,_,h5⟩ | ⟨i,v',hi,h4,rfl⟩⟩
  · exact h.2.w
  · exact .inl ⟨⟨"list",.inl (.inl ⟨rfl,_,h⟩),by decide⟩,zbj n⟩
  · by_cases c:ys.length=4
    · cases h5 rfl c
      exact .inr (.inr ⟨a,_,_,_,_,rfl,SqT.of h,n,xm,yao _,yao _,xf.th⟩)
    · have h4:ys.length≤4+1:=h4
      exact .inr (.inl ⟨a,ys,rfl,SqT.of h,n,c,by lia⟩)
  · have hi:i<4:=hi
    obtain rfl|rfl|rfl|rfl:i=0∨i=1∨i=2∨i=3:=by lia
    · exact .inr (.inr ⟨a,_,_,_,_,rfl,SqT.of h,n,h4,yao _,yao _,xm.th⟩)
    · exact .inr (.inr ⟨a,_,_,_,_,rfl,SqT.of h,n,xf,h4.th.kd,yao _,xm.th⟩)
    · exact .inr (.inr ⟨a,_,_,_,_,rfl,SqT.of h,n,xf,yao _,h4.th.kd,xm.th⟩)
    · exact .inr (.inr ⟨a,_,_,_,_,rfl,SqT.of h,n,xf,yao _,yao _,h4.th⟩)
def ElE (H:Hp) (pu g:Addr) (x:V):Prop:=ElI H pu g x∨ElR H pu g x
section
variable {P:Program} {w:World} {mg:Str→Option Value} {base:Heap} {f:Addr} {fd:FuncData}
theorem zeO (B:Bl mg) (h__law_bent:Has P w K mg base 3 "_law_bent" ["_law_purse_here","_law_thing"] (ybA ElI K 600)) (h__law_bent0:Has P w K mg base 2 "_law_bent" ["_law_purse_here","_law_thing"] (fun _ _ _ _=>False)) (h__law_pick:Has P w K mg base 1 "_law_pick" ["_law_purse_here","_law_many"] yaW) (h__law_odd:Has P w K mg base 2 "_law_odd" ["_law_purse_here","_law_thing"] (zcU K)) (F:Fun K "_law_bent" "_law_bent" yaK f fd):FnOk P w K mg base CX0 4 f fd ["_law_purse_here","_law_thing"] (ybA ElE K 40000):=by
  refine (FnOk.or ((yeh B h__law_bent0 h__law_pick h__law_odd F).mono (by decide:3≤4)) (zeb (by decide) B h__law_bent h__law_pick h__law_odd F)).imp fun vs H Q E h=>?_
  obtain ⟨pu,g,x,rfl,hP,hx | ⟨a,row,rfl,ha,na,hl,hr⟩,q⟩:=h
  · exact .inl ⟨pu,g,x,rfl,hP,hx,fun v H' hv=>q v H' (hv.mono (by decide))⟩
  · exact .inr ⟨pu,g,a,row.map Vn,_,rfl,hP,ha,na,by rw [List.length_map];exact hl,ygY ha na hr hl,fun H' _ e he=>by
      obtain ⟨y,hy,rfl⟩:=List.mem_map.mp he
      exact ⟨y,hr y hy,rfl⟩,fun v H' hv=>q v H' (zfa hl hr hv)⟩
inductive zc5 (K:PySem.W.Frag) (vs:List V) (H:Hp) (Q:VK) (E:XK):Prop
  | mk (pu g wa fa mk:Addr) (p m t few root:Nat) (marks:List Nat) (c1:vs=[.ref pu,.ref wa]) (c2:Pu H pu g) (c3:H wa=some (.tup [.ref fa,Vn few,Vn root,.ref mk])) (c4:H fa=some (.tup ([p,m,t].map Vn))) (c5:H mk=some (.tup (marks.map Vn))) (c6:wa≠pu∧wa≠g) (c7:fa≠pu∧fa≠g) (c8:mk≠pu∧mk≠g)
    (c9:∀n∈[p,m,t,few,root],n<100) (c10:∀n∈marks,n<100) (c11:marks.length≤64) (c12:∀(v:V) H',ThW K H' pu g v→Pu H' pu g→zaf pu g H H'→Q v H'):zc5 K vs H Q E
theorem zfC (B:Bl mg) (h__law_bent:Has P w K mg base 4 "_law_bent" ["_law_purse_here","_law_thing"] (ybA ElE K 40000)) (h__law_pick:Has P w K mg base 1 "_law_pick" ["_law_purse_here","_law_many"] yaW) (h__law_odd:Has P w K mg base 2 "_law_odd" ["_law_purse_here","_law_thing"] (zcU K)) (F:Fun K "_law_bent" "_law_bent" yaK f fd):FnOk P w K mg base CX0 5 f fd ["_law_purse_here","_law_thing"] (zc5 K):=by
  refine (zeb (by decide) B h__law_bent h__law_pick h__law_odd F).imp fun vs H Q E h=>?_
  obtain ⟨pu,g,wa,fa,mk,p,m,t,few,root,marks,rfl,hP,hw,hf,hm,n1,n2,n3,h1,h2,hl,q⟩:=h
  have h3:∀n∈[p,m,t],n<100:=fun n hn=>h1 n (by simp at hn ⊢;lia)
  refine ⟨pu,g,wa,_,_,rfl,hP,hw,n1,by show 4≤64;decide,zfE hw hf hm n1 n2 n3 h1 h2 hl,fun H' s e he=>?_,fun v H' hv hP' s=>q v H' (ydK (s _ _ n2.1 n2.2 hf) (s _ _ n3.1 n3.2 hm) n2 n3 h3 h2 hl hv) hP' s⟩
  simp only [List.mem_cons,List.not_mem_nil,or_false] at he
  rcases he with rfl|rfl|rfl|rfl
  · exact .inr ⟨fa,_,rfl,s _ _ n2.1 n2.2 hf,n2,by show 3≤64;decide,h3⟩
  · exact .inl ⟨few,h1 _ (by simp),rfl⟩
  · exact .inl ⟨root,h1 _ (by simp),rfl⟩
  · exact .inr ⟨mk,_,rfl,s _ _ n3.1 n3.2 hm,n3,hl,h2⟩
inductive ycw (K:PySem.W.Frag) (vs:List V) (H:Hp) (Q:VK) (E:XK):Prop
  | mk (pu g mk:Addr) (n:Nat) (marks:List Nat) (c1:vs=[.ref pu,.ref mk,Vn n]) (c2:Pu H pu g) (c3:H mk=some (.tup (marks.map Vn))) (c4:mk≠pu∧mk≠g) (c5:marks.length≤63) (c6:n≤63) (c7:∀x∈marks,x<n) (c8:∀(v:V) H',ThX K H' pu g v→Pu H' pu g→zaf pu g H H'→Q v H'):ycw K vs H Q E
theorem zbe:yaf ["_law_purse_here","_law_marks_here","_law_n","_law_way","_law_at","_law_far","_law_some"] ["_law_purse_here","_law_marks_here","_law_n"] (zac ybt):=⟨rfl,rfl,rfl,by decide +kernel,rfl,by decide +kernel,by decide +kernel⟩
theorem ye7 (B:Bl mg) (h__law_pick:Has P w K mg base 1 "_law_pick" ["_law_purse_here","_law_many"] yaW) (F:Fun K "_law_marks" "_law_marks" ybt f fd):FnOk P w K mg base CX0 2 f fd ["_law_purse_here","_law_marks_here","_law_n"] (ycw K):=by
  refine F.ok zbe (fun vs H Q E h=>?_) (fun cdv A outer s H vs Q E hr h=>?_)
  · obtain ⟨pu,g,mk,n,marks,rfl,_⟩:=h;rfl
  obtain ⟨pu,g,mk,n,marks,rfl,hP,hmk,nmk,hl,hn,hx,q⟩:=h
  refine ⟨_,((@zft _ _ 3 4 5 _ _ _ _ _ _ _ _ _ _ _ _ _ _ rfl zbe.nd rfl rfl rfl (by decide) rfl rfl rfl ((@zad _ _ _ _ _ _ _ _ _ _ _ h__law_pick hr (by lia) rfl ((pv 0)>=>zaa>=>yaa) (by decide) (by rfl) (by rfl))>=>(@zad _ _ _ _ _ _ _ _ _ _ _ h__law_pick hr (by lia) rfl ((pv 0)>=>(yal|||(yah>>>("len",PySem.boot_len,((pv 1)>=>yaa)))|||zaa)>=>yaa) (by decide) (by rfl) (by rfl))>=>(@zad _ _ _ _ _ _ _ _ _ _ _ h__law_pick hr (by lia) rfl ((pv 0)>=>(yal|||(pv 2)|||zaa)>=>yaa) (by decide) (by rfl) (by rfl))>=>yaa) rfl (by rfl))<=<(6<|>zbe.nd<|>(@zap _ _ _ _ ((zaA|||(@yak _ _ _ _ _ _ _ _ _ _ yaq (pv 1) zaq (@yam _ _ _ (pv 4)))|||(@yak _ _ _ _ _ _ _ _ _ _ yaq (pv 1) (@yam _ _ _ (yal|||(pv 4)|||zaa)) zaq))>=>(zaA|||(zaA|||(@yak _ _ _ _ _ _ _ _ _ _ yaq (pv 1) zaq (@yam _ _ _ (pv 4)))|||(@yax _ _ _ _ _ ((pv 5)>=>yaa)))|||(@yak _ _ _ _ _ _ _ _ _ _ yaq (pv 1) (@yam _ _ _ (pv 4)) zaq))>=>(ybL<*("tuple",zaj,((ycm rfl rfl (B "sorted" (by decide)) rfl (B "set" (by decide)) (ygZ zaA (pv 1) (yax (zcu (pv 5) yaa))))>=>yaa)))>=>yaa)))<=<(@ybp _ _ _ _ (@zdw _ _ _ _ _ _ _ _ _ _ _ _ PySem.F.plainAttrs_list PySem.F.slot_list_append PySem.F.type_list_append yaV (pv 6) ((zaA|||(zaA|||(@yak _ _ _ _ _ _ _ _ _ _ yaq (pv 1) zaq (@yam _ _ _ (pv 4)))|||(@yak _ _ _ _ _ _ _ _ _ _ yaq (pv 1) (@yam _ _ _ (ya1|||(pv 4)|||zaa)) (@yam _ _ _ (pv 4))))|||(@yak _ _ _ _ _ _ _ _ _ _ yaq (pv 1) (@yam _ _ _ (pv 4)) zaq))>=>yaa) (by rfl) (by rfl) (by rfl) (by rfl) (by rfl)) (by rfl))<=<(@ybp _ _ _ _ (@zdw _ _ _ _ _ _ _ _ _ _ _ _ PySem.F.plainAttrs_list PySem.F.slot_list_append PySem.F.type_list_append yaV (pv 6) ((zaA|||(@yak _ _ _ _ _ _ _ _ _ _ yaq (pv 1) (@yam _ _ _ (pv 4)) zaq)|||(@yak _ _ _ _ _ _ _ _ _ _ yaq (pv 1) zaq (@yam _ _ _ (pv 4))))>=>yaa) (by rfl) (by rfl) (by rfl) (by rfl) (by rfl)) (by rfl))<=<(~~~((zai<<<(pv 6)<<<(pv 3))⁻¹))),?_⟩
  try dsimp only [cxOf]
  have it0:IT 63 (marks.map Vn):=IT.row hl fun x h=>by have:=hx x h;lia
  refine ⟨_,rfl,pu,g,5,rfl,hP,by lia,by lia,fun way H1 hway hP1 sx1=>?_⟩
  have e1:=sx1 _ _ nmk.1 nmk.2 hmk
  refine ⟨_,rfl,_,rfl,mk,_,rfl,.inr (SqT.of e1),?_⟩
  refine ⟨_,_,rfl,rfl,pu,g,marks.length+1,by rw [List.length_map];rfl,hP1,by lia,by lia,fun at_ H2 hat hP2 sx2=>?_⟩
  have e2:=sx2 _ _ nmk.1 nmk.2 e1
  refine ⟨_,rfl,_,rfl,_,_,rfl,rfl,pu,g,n+1,rfl,hP2,by lia,by lia,fun far H3 hfar hP3 sx3=>⟨_,_,_,rfl,?_⟩⟩
  have e3:=sx3 _ _ nmk.1 nmk.2 e2
  have sx:zaf pu g H H3:=sx1.trans (sx2.trans sx3)
  clear sx1 sx2 sx3 e1 e2 hP1 hP2 hmk
  dsimp only [yat]
  refine ⟨_,rfl,_,rfl,(at_:Int),rfl,yfS hP3 nmk (SqT.of e3) fun r1 y1 A1 t1 er1 nr1 hl1 hs1=>?_⟩
  have g1:=t1 _ _ e3
  have i1:=it0.sub hl1 hs1
  refine ⟨_,rfl,_,rfl,_,_,rfl,rfl,((at_:Int)+1),rfl,ybJ (yfS (hP3.same t1) nmk (SqT.of g1) fun r2 y2 A2 t2 er2 nr2 hl2 hs2=>?_)⟩
  have i2:=it0.sub hl2 hs2
  refine yeg ((hP3.same t1).same t2) nr1 nr2 (Same.tup t2 er1) er2 (by have:=i1.1;have:=i2.1;lia) fun ra A3 t3 era nra=>?_
  have u3:=t1.trans (t2.trans t3)
  have P3:=hP3.same u3
  have g3:=u3 _ _ e3
  have fa:ThX K A3 pu g (.ref ra):=(i1.app i2).th (by decide) era nra
  have sx3:=sx.trans (Same.x u3)
  clear er1 er2 era g1 i1 i2 hl1 hl2 hs1 hs2 t1 t2 t3 u3 hP3 e3 sx
  refine ⟨_,rfl,_,rfl,(at_:Int),rfl,yfS P3 nmk (SqT.of g3) fun r1 y1 A4 t1 er1 nr1 hl1 hs1=>?_⟩
  have i1:=it0.sub hl1 hs1
  have P4:=P3.same t1
  refine ⟨_,rfl,szl 1,fun c1 hc1=>?_⟩
  have t2:=yab hc1 (.tup [Vn far])
  have iF:IT 1 [Vn far]:=IT.one (by lia)
  refine yeg (P4.same t2) nr1 (P4.lt hc1) (Same.tup t2 er1) (SqT.of zab) (by have:=i1.1;show y1.length+1≤1000;lia) fun r2 A5 t3 er2 nr2=>?_
  have i2:=i1.app iF
  have u5:=t1.trans (t2.trans t3)
  have P5:=P3.same u5
  refine ⟨_,rfl,_,rfl,(at_:Int),rfl,ybJ (yfS P5 nmk (SqT.of (u5 _ _ g3)) fun r3 y3 A6 t4 er3 nr3 hl3 hs3=>?_)⟩
  have i3:=it0.sub hl3 hs3
  refine yeg (P5.same t4) nr2 nr3 (Same.tup t4 er2) er3 (by have:=i2.1;have:=i3.1;lia) fun rb A7 t5 erb nrb=>?_
  have u7:=u5.trans (t4.trans t5)
  have P7:=P3.same u7
  have g7:=u7 _ _ g3
  have fb:ThX K A7 pu g (.ref rb):=(i2.app i3).th (by decide) erb nrb
  replace fa:=fa.x (Same.x u7)
  have sx7:=sx3.trans (Same.x u7)
  clear er1 er2 er3 erb i1 i2 i3 hl1 hl3 hs1 hs3 t1 t2 t3 t4 t5 u5 u7 P3 P4 P5 g3 sx3 hc1
  refine ⟨_,rfl,_,rfl,szl 1,fun c1 hc1=>?_⟩
  have t2:=yab hc1 (.tup [Vn far])
  refine yeg (P7.same t2) nmk (P7.lt hc1) (SqT.of (t2 _ _ g7)) (SqT.of zab) (by have:=it0.1;show (marks.map Vn).length+1≤1000;lia) fun r2 A9 t3 er2 nr2=>?_
  have i2:=it0.app iF
  obtain ⟨ns,ens,hns⟩:=i2.ns
  rw [ens] at er2
  have hnl:ns.length≤64:=by have:=i2.1;rw [ens,List.length_map] at this;exact this
  refine ⟨r2,ns,rfl,er2,by lia,fun l1 ns' hl1 hlt hmem=>?_⟩
  have t4:=yab hl1 (.lst (ns'.map V.int))
  have hnl':ns'.length≤ns.length:=zbs (hlt.imp fun h=>Int.ne_of_lt h) fun k hk=>(hmem k).mp hk
  have i3:IT 64 (ns'.map V.int):=⟨by rw [List.length_map];lia,fun e he=>by
    obtain ⟨k,hk,rfl⟩:=List.mem_map.mp he
    exact ⟨k,hns k ((hmem k).mp hk),rfl⟩⟩
  refine ⟨l1,_,rfl,.inl ⟨SqL.of zab,fun rc hrc=>?_⟩⟩
  have u4:=t2.trans (t3.trans t4)
  have t5:=yab hrc (.tup (ns'.map V.int))
  have P9:=P7.same u4
  have fc:ThX K (upd (upd A9 l1 (.lst (ns'.map V.int))) rc (.tup (ns'.map V.int))) pu g (.ref rc):=i3.th (by decide) (SqT.of zab) (P9.lt hrc)
  have u5:=u4.trans t5
  have Pa:=P7.same u5
  have ga:=u5 _ _ g7
  replace fa:=fa.x (Same.x u5)
  replace fb:=fb.x (Same.x u5)
  have sxa:=sx7.trans (Same.x u5)
  generalize upd (upd A9 l1 (.lst (ns'.map V.int))) rc (.tup (ns'.map V.int))=Aa at *
  clear t2 t3 t4 t5 u4 u5 P7 P9 g7 sx7 er2 i2 i3 hns hmem hlt ens
  refine ⟨szl 3,fun so hso=>?_⟩
  have t1:=yab hso (.lst [.ref ra,.ref rb,.ref rc])
  have eso:upd Aa so (.lst [.ref ra,.ref rb,.ref rc]) so=some (.lst [.ref ra,.ref rb,.ref rc]):=zab
  have nso:=Pa.lt hso
  have hN:∀ {H':Hp} {xs:List V},Same Aa H'→H' so=some (.lst xs)→∀r,H' r=none→(r≠pu∧r≠g)∧r≠so:=fun s e r hr=>⟨(Pa.same s).lt hr,fun q=>by rw [q,e] at hr;cases hr⟩
  have nM:(mk≠pu∧mk≠g)∧mk≠so:=⟨nmk,yac ga hso⟩
  generalize upd Aa so (.lst [.ref ra,.ref rb,.ref rc])=Ab at *
  dsimp only [yat]
  refine ⟨_,rfl,.inl ⟨rfl,_,SqL.of eso⟩,?_⟩
  refine ⟨_,rfl,_,rfl,(at_:Int),rfl,yeD _ (hN t1 eso) nM (SqT.of (t1 _ _ ga)) fun r1 y1 A1 t2 er1 nr1 hl1 hs1=>?_⟩
  have i1:=it0.sub hl1 hs1
  have u1:=t1.trans t2
  refine ⟨_,rfl,_,rfl,_,_,rfl,rfl,((at_:Int)-1),rfl,_,rfl,(at_:Int),rfl,yeD _ (hN u1 (t2 _ _ eso)) nM (SqT.of (u1 _ _ ga)) fun r2 y2 A2 t3 er2 nr2 hl2 hs2=>?_⟩
  have i2:=it0.sub hl2 hs2
  have u2:=u1.trans t3
  have v2:=t2.trans t3
  refine yfb _ (hN u2 (v2 _ _ eso)) nr1 nr2 (Same.tup t3 er1) er2 (by have:=i1.1;have:=i2.1;lia) fun r3 A3 t4 er3 nr3=>?_
  have i3:=i1.app i2
  have u3:=u2.trans t4
  have v3:=v2.trans t4
  refine ⟨_,rfl,_,rfl,(at_:Int),rfl,ybJ (yeD _ (hN u3 (v3 _ _ eso)) nM (SqT.of (u3 _ _ ga)) fun r4 y4 A4 t5 er4 nr4 hl4 hs4=>?_)⟩
  have i4:=it0.sub hl4 hs4
  have u4:=u3.trans t5
  have v4:=v3.trans t5
  refine yfb _ (hN u4 (v4 _ _ eso)) nr3 nr4 (Same.tup t5 er3) er4 (by have:=i3.1;have:=i4.1;lia) fun rd A5 t6 erd nrd=>?_
  have i5:=i3.app i4
  have u5:=u4.trans t6
  have e5:=(v4.trans t6) _ _ eso
  generalize y1++y2++y4=yd at erd i5
  clear er1 er2 er3 er4 i1 i2 i3 i4 hl1 hl2 hl4 hs1 hs2 hs4 t1 t2 t3 t4 t5 t6 u1 u2 u3 u4 v2 v3 v4
  refine ⟨so,_,_,rfl,rfl,e5,yai (by show 3≤1000;decide),?_⟩
  have w1:=zdy (o:=.lst ([.ref ra,.ref rb,.ref rc]++[.ref rd])) hso u5
  have e6:upd A5 so (.lst ([.ref ra,.ref rb,.ref rc]++[.ref rd])) so=some (.lst ([.ref ra,.ref rb,.ref rc]++[.ref rd])):=zab
  replace erd:=yc9 (o:=.lst ([.ref ra,.ref rb,.ref rc]++[.ref rd])) nrd.2 erd
  generalize upd A5 so (.lst ([.ref ra,.ref rb,.ref rc]++[.ref rd]))=B at *
  clear u5 e5
  refine ⟨_,rfl,.inl ⟨rfl,_,SqL.of e6⟩,?_⟩
  refine ⟨_,rfl,_,rfl,(at_:Int),rfl,ybJ (yeD _ (hN w1 e6) nM (SqT.of (w1 _ _ ga)) fun r1 y1 B1 t2 er1 nr1 hl1 hs1=>?_)⟩
  have i1:=it0.sub hl1 hs1
  have u1:=w1.trans t2
  refine ⟨_,rfl,_,rfl,(at_:Int),rfl,yeD _ (hN u1 (t2 _ _ e6)) nM (SqT.of (u1 _ _ ga)) fun r2 y2 B2 t3 er2 nr2 hl2 hs2=>?_⟩
  have i2:=it0.sub hl2 hs2
  have u2:=u1.trans t3
  have v2:=t2.trans t3
  refine yfb _ (hN u2 (v2 _ _ e6)) nr1 nr2 (Same.tup t3 er1) er2 (by have:=i1.1;have:=i2.1;lia) fun re B3 t4 ere nre=>?_
  have i3:=i1.app i2
  have u3:=u2.trans t4
  have v3:=v2.trans t4
  refine ⟨so,_,_,rfl,rfl,v3 _ _ e6,yai (by show 4≤1000;decide),?_⟩
  have w3:=zdy (o:=.lst ([.ref ra,.ref rb,.ref rc]++[.ref rd]++[.ref re])) hso u3
  have e7:upd B3 so (.lst ([.ref ra,.ref rb,.ref rc]++[.ref rd]++[.ref re])) so=some (.lst ([.ref ra,.ref rb,.ref rc]++[.ref rd]++[.ref re])):=zab
  replace erd:=yc9 (o:=.lst ([.ref ra,.ref rb,.ref rc]++[.ref rd]++[.ref re])) nrd.2 (Same.tup v3 erd)
  replace ere:=yc9 (o:=.lst ([.ref ra,.ref rb,.ref rc]++[.ref rd]++[.ref re])) nre.2 ere
  generalize upd B3 so (.lst ([.ref ra,.ref rb,.ref rc]++[.ref rd]++[.ref re]))=Z at *
  have hw:way<([.ref ra,.ref rb,.ref rc]++[.ref rd]++[.ref re]:List V).length:=hway
  refine ⟨_,rfl,_,rfl,so,_,_,([.ref ra,.ref rb,.ref rc]++[.ref rd]++[.ref re]:List V)[way],rfl,rfl,SqL.of e7,zaB (List.getElem?_eq_getElem hw),?_⟩
  refine q _ _ ?_ (Pa.same w3) (sxa.trans (Same.x w3))
  have hm:=List.getElem_mem hw
  generalize ([.ref ra,.ref rb,.ref rc]++[.ref rd]++[.ref re]:List V)[way]=v at hm
  simp only [List.cons_append,List.nil_append,List.mem_cons,List.not_mem_nil,or_false] at hm
  rcases hm with rfl|rfl|rfl|rfl|rfl
  · exact fa.x (Same.x w3)
  · exact fb.x (Same.x w3)
  · exact fc.x (Same.x w3)
  · exact i5.th (by decide) erd nrd.1
  · exact i3.th (by decide) ere nre.1
end
end My
end
section
set_option exponentiation.threshold 1100
namespace My
open PySem L2 Dg
theorem zbF {n:Nat}:∀ {l:List Nat},l.Pairwise (· < ·)→(∀x∈l,x<n)→l.length≤n:=fun {l} h h2=>by
  have:=zbs (h.imp fun h=>Nat.ne_of_lt h:l.Nodup) (τ:=List.range n) fun x hx=>List.mem_range.mpr (h2 x hx)
  rwa [List.length_range] at this
section
variable {P:Program} {w:World} {mg:Str→Option Value} {base:Heap} {f:Addr} {fd:FuncData}
inductive ycp (K:PySem.W.Frag) (vs:List V) (H:Hp) (Q:VK) (E:XK):Prop
  | mk (pu g tb fa pa la wh mk:Addr) (p m t b few root n:Nat) (marks:List Nat) (c1:vs=[.ref pu,.ref tb,.ref wh]) (c2:Pu H pu g) (c3:Tab H tb fa pa la p m t b) (c4:yfz pu g tb fa pa la) (c5:WhAt H wh fa mk few root marks) (c6:wh≠pu∧wh≠g) (c7:mk≠pu∧mk≠g) (c8:Whl p m t few root n marks) (c9:n≤63) (c10:∀(v:V) H',ThW K H' pu g v→Pu H' pu g→zaf pu g H H'→Q v H'):ycp K vs H Q E
theorem yaj:yaf ["_law_purse_here","_law_table_here","_law_wheel_here","_law_way","_law_field_here","_law_few","_law_root","_law_marks_here","_law_any_thing","_law_n","_law_at","_law_by"] ["_law_purse_here","_law_table_here","_law_wheel_here"] (zac zaS):=⟨rfl,rfl,rfl,by decide +kernel,rfl,by decide +kernel,by decide +kernel⟩
theorem yfq (B:Bl mg) (h__law_pick:Has P w K mg base 1 "_law_pick" ["_law_purse_here","_law_many"] yaW) (h__law_roots:Has P w K mg base 2 "_law_roots" ["_law_table_here","_law_root"] zbK) (h__law_marks:Has P w K mg base 2 "_law_marks" ["_law_purse_here","_law_marks_here","_law_n"] (ycw K)) (F:Fun K "_law_otherwise" "_law_otherwise" zaS f fd):FnOk P w K mg base CX0 3 f fd ["_law_purse_here","_law_table_here","_law_wheel_here"] (ycp K):=by
  refine F.ok yaj (fun vs H Q E h=>?_) (fun cdv A outer s H vs Q E hr h=>?_)
  · obtain ⟨pu,g,tb,fa,pa,la,wh,mk,p,m,t,b,few,root,n,marks,rfl,_⟩:=h;rfl
  obtain ⟨pu,g,tb,fa,pa,la,wh,mk,p,m,t,b,few,root,n,marks,rfl,hP,T,ap,W,nw,nm,hW,hn,q⟩:=h
  refine ⟨_,((3<|>yaj.nd<|>(@zad _ _ _ _ _ _ _ _ _ _ _ h__law_pick hr (by lia) rfl ((pv 0)>=>zaa>=>yaa) (by decide) (by rfl) (by rfl)))<=<((pv 2)≈((4&&&yaj.nd)∩((5&&&yaj.nd)∩((6&&&yaj.nd)∩((7&&&yaj.nd)∩yaA)))))<=<(@yb3 _ _ 8 9 _ _ _ _ _ _ _ _ _ _ _ rfl yaj.nd rfl rfl (by decide) rfl rfl ((@zad _ _ _ _ _ _ _ _ _ _ _ h__law_pick hr (by lia) rfl ((pv 0)>=>((pv 1)⊃zaF)>=>yaa) (by decide) (by rfl) (by rfl))>=>(yah>>>("len",PySem.boot_len,((@zad _ _ _ _ _ _ _ _ _ _ _ h__law_roots hr (by lia) rfl ((pv 1)>=>(pv 6)>=>yaa) (by decide) (by rfl) (by rfl))>=>yaa)))>=>yaa) rfl (by rfl))<=<((zaZ∪(pv 3)∪zaa)*>(((@yb3 _ _ 10 11 _ _ _ _ _ _ _ _ _ _ _ rfl yaj.nd rfl rfl (by decide) rfl rfl ((@zad _ _ _ _ _ _ _ _ _ _ _ h__law_pick hr (by lia) rfl ((pv 0)>=>zaa>=>yaa) (by decide) (by rfl) (by rfl))>=>(@zad _ _ _ _ _ _ _ _ _ _ _ h__law_pick hr (by lia) rfl ((pv 0)>=>zaa>=>yaa) (by decide) (by rfl) (by rfl))>=>yaa) rfl (by rfl))<=<(~~~((zaA|||(@yax _ _ _ _ _ ((zaA|||(zaA|||(@yak _ _ _ _ _ _ _ _ _ _ yaq (pv 4) zaq (@yam _ _ _ (pv 10)))|||(@yax _ _ _ _ _ ((zai<<<(@zap _ _ _ _ ((yal|||(zao<<<(pv 4)<<<(pv 10))|||zaa)>=>((zeU rfl)>>>("max",ycA,(zaa>=>(ya1|||(zao<<<(pv 4)<<<(pv 10))|||zaa)>=>yaa)))>=>(pv 8)>=>yaa))<<<(pv 11))>=>yaa)))|||(@yak _ _ _ _ _ _ _ _ _ _ yaq (pv 4) (@yam _ _ _ (yal|||(pv 10)|||zaa)) zaq))>=>yaa))|||(@yak _ _ _ _ _ _ _ _ _ _ yaq (pv 2) (@yam _ _ _ zaa) zaq))⁻¹))),yae))<=<((zaZ∪(pv 3)∪zaa)*>((~~~((@yax _ _ _ _ _ ((pv 4)>=>(yal|||zaa|||(@zad _ _ _ _ _ _ _ _ _ _ _ h__law_pick hr (by lia) rfl ((pv 0)>=>(yal|||((pv 1)⊃zaF)|||zaa)>=>yaa) (by decide) (by rfl) (by rfl)))>=>(pv 6)>=>(pv 7)>=>yaa))⁻¹)),yae))<=<((zaZ∪(pv 3)∪zaa)*>((~~~((@yax _ _ _ _ _ ((pv 4)>=>(pv 5)>=>(zai<<<(@zap _ _ _ _ (zaa>=>((pv 1)⊃zaF)>=>(pv 8)>=>yaa))<<<(@zad _ _ _ _ _ _ _ _ _ _ _ h__law_pick hr (by lia) rfl ((pv 0)>=>zaa>=>yaa) (by decide) (by rfl) (by rfl)))>=>(pv 7)>=>yaa))⁻¹)),yae))<=<(~~~((@yax _ _ _ _ _ ((pv 4)>=>(pv 5)>=>(pv 6)>=>(@zad _ _ _ _ _ _ _ _ _ _ _ h__law_marks hr (by lia) rfl ((pv 0)>=>(pv 7)>=>(pv 9)>=>yaa) (by decide) (by rfl) (by rfl))>=>yaa))⁻¹))),?_⟩
  try dsimp only [cxOf]
  have G:=T.good
  have hp:=G.hp
  have hm:=G.hm
  have hQ:=G.hq
  have ht:=G.top
  have hp2:=p_le hp hm hQ
  have hm6:=m_le hp hQ
  refine ⟨_,rfl,pu,g,8,rfl,hP,by lia,by lia,fun way H1 hway hP1 sx1=>?_⟩
  have W1:=W.x nw nm sx1
  refine ⟨_,rfl,wh,_,rfl,SqT.of W1.w,rfl,_,_,rfl,_,_,rfl,_,_,rfl,_,_,rfl,rfl,?_⟩
  have T1:=T.x ap sx1
  refine ⟨_,rfl,_,rfl,tb,_,rfl,T1.get zcg,pu,g,p^m,rfl,hP1,by lia,by lia,fun any H2 hany hP2 sx2=>?_⟩
  have T2:=T1.x ap sx2
  refine ⟨_,rfl,_,rfl,tb,fa,pa,la,p,m,t,b,root,rfl,T2,hW.r0,hW.rq,fun n' r H3 o hn' s3 nr er=>?_⟩
  obtain rfl:=hW.ord.uniq o
  have sx:zaf pu g H H3:=sx1.trans (sx2.trans (Same.x s3))
  have hP3:=hP2.same s3
  have T3:=T2.same s3
  have W3:=(W1.x nw nm sx2).same s3
  have nf:fa≠pu∧fa≠g:=⟨ap.b1,ap.b2⟩
  refine ⟨r,_,rfl,.inl (SqL.of er),_,_,rfl,?_⟩
  rw [List.length_map,yck]
  clear er nr T1 T2 W1 hP1 hP2 s3 sx1 sx2 hP W T
  dsimp only [yat]
  refine ⟨_,rfl,rfl,_,rfl,?_⟩
  refine ite2 (fun c0=>?_) (fun c0=>?_)
  · refine ⟨_,rfl,pu,g,3,rfl,hP3,by lia,by lia,fun at_ H4 hat hP4 sx4=>?_⟩
    refine ⟨_,rfl,pu,g,3,rfl,hP4,by lia,by lia,fun by_ H5 hby hP5 sx5=>⟨_,_,rfl,?_⟩⟩
    have sx5:=sx4.trans sx5
    have hrow:∀y∈[p,m,t],y<65:=fun y hy=>by
      simp only [List.mem_cons,List.not_mem_nil,or_false] at hy
      rcases hy with rfl|rfl|rfl <;> lia
    have ef:H5 fa=some (.tup ([p,m,t].map Vn)):=sx5 _ _ nf.1 nf.2 T3.f
    have W5:=W3.x nw nm sx5
    have it0:IT 3 ([p,m,t].map Vn):=IT.row (Nat.le_refl _) fun x hx=>by have:=hrow x hx;lia
    have hl:[p,m,t].length=3:=rfl
    generalize [p,m,t]=row at hrow ef it0 hl
    have hat':at_<row.length:=by lia
    have sx5:=sx.trans sx5
    dsimp only [yat]
    refine ⟨_,rfl,_,rfl,(at_:Int),rfl,zf2 hP5 nf ef fun r1 y1 H6 s6 er1 nr1 hl1 hs1=>?_⟩
    have i1:=it0.sub hl1 hs1
    have ef6:=s6 _ _ ef
    have hv:=ygi hrow hat'
    refine ⟨_,rfl,_,rfl,fa,_,_,Vn (row.getD at_ 0),rfl,rfl,SqT.of ef6,zaB (ybm hat'),_,_,rfl,rfl,?_⟩
    refine ⟨_,rfl,_,rfl,fa,_,_,Vn (row.getD at_ 0),rfl,rfl,SqT.of ef6,zaB (ybm hat'),_,_,rfl,rfl,_,_,rfl,_,rfl,szl 3,fun lo hlo=>?_⟩
    generalize hsome:[V.int ((row.getD at_ 0:Nat)+1),V.int (if ((row.getD at_ 0:Nat):Int)-1>0 then ((row.getD at_ 0:Nat):Int)-1 else 0),Vn any]=some3
    have hs3:IT 3 some3:=by
      subst hsome
      refine ⟨Nat.le_refl _,fun e he=>?_⟩
      simp only [List.mem_cons,List.not_mem_nil,or_false] at he
      rcases he with rfl|rfl|rfl
      · exact ⟨((row.getD at_ 0:Nat):Int)+1,by lia,rfl⟩
      · exact ⟨if ((row.getD at_ 0:Nat):Int)-1>0 then ((row.getD at_ 0:Nat):Int)-1 else 0,by split <;> lia,rfl⟩
      · exact ⟨(any:Int),by lia,rfl⟩
    have hl3:some3.length=3:=by subst hsome;rfl
    have hby':by_<some3.length:=by lia
    have s7:=yab hlo (.lst some3)
    obtain ⟨iv,hiv,eiv⟩:=hs3.2 _ (List.getElem_mem hby')
    refine ⟨_,rfl,lo,_,_,some3[by_],rfl,rfl,SqL.of zab,zaB (List.getElem?_eq_getElem hby'),szl 1,fun c1 hc1=>?_⟩
    rw [eiv]
    have s8:=yab hc1 (.tup [.int iv])
    have P8:=hP5.same (s6.trans (s7.trans s8))
    have s78:=s7.trans s8
    refine ycM P8 nr1 ((hP5.same (s6.trans s7)).lt hc1) (s78 _ _ er1) zab (by have:=i1.1;show y1.length+1≤1000;lia) fun r2 H9 s9 er2 nr2=>?_
    have i2:=i1.app (IT.one hiv)
    have u9:=s6.trans (s78.trans s9)
    refine ⟨_,rfl,_,rfl,_,_,rfl,rfl,((at_:Int)+1),rfl,ybJ (zf2 (hP5.same u9) nf (u9 _ _ ef) fun r3 y3 A1 t1 er3 nr3 hl3' hs3'=>?_)⟩
    have i3:=it0.sub hl3' hs3'
    refine ycM ((hP5.same u9).same t1) nr2 nr3 (t1 _ _ er2) er3 (by have:=i2.1;have:=i3.1;lia) fun rf A2 t2 erf nrf=>?_
    have i4:=i2.app i3
    obtain ⟨ns,ens,hns⟩:=i4.ns
    have hnl:ns.length≤7:=by have:=i4.1;rw [ens,List.length_map] at this;exact this
    rw [ens] at erf
    have u2:=u9.trans (t1.trans t2)
    refine ⟨szl 1,fun c2 hc2=>?_⟩
    have t3:=yab hc2 (.tup [.ref rf])
    have u3:=u2.trans t3
    have P3:=hP5.same u3
    have W3:=W5.same u3
    have fk:upd A2 c2 (.tup [.ref rf]) rf=some (.tup (ns.map V.int)):=t3 _ _ erf
    have fc:upd A2 c2 (.tup [.ref rf]) c2=some (.tup [.ref rf]):=zab
    have nc2:=(hP5.same u2).lt hc2
    generalize upd A2 c2 (.tup [.ref rf])=A3 at *
    refine ⟨_,rfl,1,rfl,ybJ (zcK P3 nw W3.w (ybZ _ 1) fun rw' A4 t4 erw nrw=>?_)⟩
    refine ycM (P3.same t4) nc2 nrw (t4 _ _ fc) erw (by show 1+3≤1000;decide) fun rz A5 t5 erz nrz=>?_
    have u5:=t4.trans t5
    have W6:=W3.same u5
    have xm:ThX K A5 pu g (.ref mk):=ybU (SqT.of W6.k) nm (by rw [List.length_map];have:=zbF hW.asc hW.lt;lia) (zdR _)
    refine q _ _ (.inr (.inr ⟨rz,.ref rf,Vn few,Vn root,.ref mk,rfl,SqT.of erz,nrz,ydJ (u5 _ _ fk) nrf (by lia) fun i hi=>Nat.lt_trans (hns i hi) (by decide),yao _,yao _,xm⟩)) (P3.same u5) (sx5.trans (Same.x (u3.trans u5)))
  have nat:∀ {H':Hp},Same H3 H'→RX K H' pu g 40000 (.ref fa):=fun s=>by
    have h:=s _ _ T3.f
    refine ydJ (ns:=[p,m,t].map fun x:Nat=>(x:Int)) (by rw [mapI];exact h) nf (by show 3≤99;decide) fun i hi=>?_
    obtain ⟨y,hy,rfl⟩:=List.mem_map.mp hi
    refine Nat.lt_trans (show (y:Int).natAbs<100 from ?_) (by decide)
    simp only [List.mem_cons,List.not_mem_nil,or_false] at hy
    rcases hy with rfl|rfl|rfl <;> lia
  have xf3:=nat (Same.refl _)
  have xm3:ThX K H3 pu g (.ref mk):=ybU (SqT.of W3.k) nm (by rw [List.length_map];have:=zbF hW.asc hW.lt;lia) (zdR _)
  dsimp only [yaS]
  refine ⟨_,rfl,rfl,_,rfl,?_⟩
  refine ite2 (fun c1=>?_) (fun c1=>?_)
  · refine ⟨_,rfl,_,rfl,_,rfl,tb,_,rfl,T3.get ygE,_,_,rfl,rfl,pu,g,m+1,rfl,hP3,by lia,by lia,fun v H4 hv hP4 sx4=>?_⟩
    refine ⟨_,_,rfl,rfl,_,rfl,_,rfl,szl 4,fun r hr'=>?_⟩
    have s5:=yab hr' (.tup [V.ref fa,V.int (1+(v:Int)),Vn root,V.ref mk])
    have sx5:=sx4.trans (Same.x s5)
    exact q _ _ (.inr (.inr ⟨r,_,_,_,_,rfl,SqT.of zab,hP4.lt hr',xf3.x sx5,yao _,yao _,xm3.x sx5⟩)) (hP4.same s5) (sx.trans sx5)
  dsimp only [yaS]
  refine ⟨_,rfl,rfl,_,rfl,?_⟩
  refine ite2 (fun c2=>?_) (fun c2=>?_)
  · refine ⟨_,rfl,_,rfl,_,rfl,tb,_,rfl,T3.get zcg,_,rfl,szl 3,fun lo hlo=>?_⟩
    generalize hsome:[V.int 0,Vn (p^m),Vn any]=some3 at hlo ⊢
    have hs3:∀e∈some3,∃i:Int,e = .int i:=fun e he=>by
      subst hsome
      simp only [List.mem_cons,List.not_mem_nil,or_false] at he
      rcases he with rfl|rfl|rfl <;> exact ⟨_,rfl⟩
    have hl3:some3.length=3:=by subst hsome;rfl
    have s4:=yab hlo (.lst some3)
    have nlo:=hP3.lt hlo
    have el:upd H3 lo (.lst some3) lo=some (.lst some3):=zab
    have P4:=hP3.same s4
    generalize upd H3 lo (.lst some3)=H4 at *
    refine ⟨_,rfl,pu,g,3,rfl,P4,by lia,by lia,fun k H5 hk hP5 sx5=>?_⟩
    have hk':k<some3.length:=by lia
    obtain ⟨iv,eiv⟩:=hs3 _ (List.getElem_mem hk')
    refine ⟨lo,_,_,some3[k],rfl,rfl,SqL.of (sx5 _ _ nlo.1 nlo.2 el),zaB (List.getElem?_eq_getElem hk'),?_⟩
    rw [eiv]
    refine ⟨_,rfl,szl 4,fun r hr'=>?_⟩
    have s6:=yab hr' (.tup [V.ref fa,Vn few,V.int iv,V.ref mk])
    have sx6:=(Same.x s4).trans (sx5.trans (Same.x s6))
    exact q _ _ (.inr (.inr ⟨r,_,_,_,_,rfl,SqT.of zab,hP5.lt hr',xf3.x sx6,yao _,yao _,xm3.x sx6⟩)) (hP5.same s6) (sx.trans sx6)
  dsimp only [yaS]
  refine ⟨_,rfl,_,rfl,_,rfl,_,rfl,_,rfl,_,rfl,pu,g,mk,n,marks,rfl,hP3,W3.k,nm,by have:=zbF hW.asc hW.lt;lia,hn,hW.lt,fun v H4 hv hP4 sx4=>?_⟩
  refine ⟨szl 4,fun r hr'=>?_⟩
  have s5:=yab hr' (.tup [V.ref fa,Vn few,Vn root,v])
  have sx5:=sx4.trans (Same.x s5)
  exact q _ _ (.inr (.inr ⟨r,_,_,_,_,rfl,SqT.of zab,hP4.lt hr',xf3.x sx5,yao _,yao _,hv.x (Same.x s5)⟩)) (hP4.same s5) (sx.trans sx5)
end
end My
end
section
set_option exponentiation.threshold 1100
namespace My
open PySem L2 Dg
noncomputable def Lk (K:PySem.W.Frag) (H:Hp) (x:V) (o:Option (List V)):Prop:=(∃T,yaU K H x T∧T≠"tuple"∧o=none)∨Ex2 fun (a:Addr) (xs:List V)=>x = .ref a∧SqT K H a xs∧xs.length≤200∧(∀e∈xs,Kd K H e)∧o=some xs
theorem Lk.same {K:PySem.W.Frag} {o:Option (List V)} (s:Same H H') (h:Lk K H x o):Lk K H' x o:=by
  rcases h with ⟨T,h1,h2⟩ | ⟨a,xs,e,h1,hl,h2,h3⟩
  · exact .inl ⟨T,zaL s h1,h2⟩
  · exact .inr ⟨a,xs,e,Same.tup s h1,hl,fun e he=>(h2 e he).same s,h3⟩
def opB (fn:List V→Bool):Option (List V)→Bool
  | none=>false
  | some xs=>fn xs
theorem Lk.res {K:PySem.W.Frag} {o:Option (List V)} (h:Lk K H x o) (fn:List V→Bool):Res K H fn x (opB fn o):=by
  rcases h with ⟨T,h1,h2,rfl⟩ | ⟨a,xs,e,h1,hl,h2,rfl⟩
  · exact .inl ⟨T,h1,h2,rfl⟩
  · exact .inr ⟨a,xs,e,h1,hl,h2,rfl⟩
theorem ThX.lk {K:PySem.W.Frag} {H:Hp} {pu g:Addr} {x:V} (h:ThX K H pu g x):∃o,Lk K H x o:=by
  rcases h with ⟨T,h,hT,n⟩ | ⟨a,xs,rfl,h,n,hl,hk⟩
  · exact ⟨none,.inl ⟨T,h,hT,rfl⟩⟩
  · exact ⟨_,.inr ⟨a,xs,rfl,h,hl,fun e he=>(hk e he).1,rfl⟩⟩
noncomputable def riG (n:Nat):Int→List V→Bool
  | _,[]=>true
  | b,.int i::xs=>decide (b<i)&&(decide (i<(n:Int))&&riG n i xs)
  | _,_::_=>false
theorem ydd {n:Nat}:∀ {xs:List V} {b:Int},-1≤b→(riG n b xs=true↔∃marks:List Nat,xs=marks.map Vn∧marks.Pairwise (· < ·)∧∀x∈marks,b<(x:Int)∧x<n)
  | [],b,_=>⟨fun _=>⟨[],rfl,.nil,fun _ h=>nomatch h⟩,fun _=>rfl⟩
  | x::xs,b,hb=>by
    constructor
    · intro h
      cases x with
      | int i =>
        rw [riG,Bool.and_eq_true,Bool.and_eq_true] at h
        obtain ⟨h1,h2,h3⟩:=h
        have h1:=of_decide_eq_true h1
        have h2:=of_decide_eq_true h2
        obtain ⟨ms,e,hp,hm⟩:=(ydd (by lia)).mp h3
        obtain ⟨i,rfl⟩:=Int.eq_ofNat_of_zero_le (show 0≤i by lia)
        refine ⟨i::ms,by rw [e];rfl,List.pairwise_cons.mpr ⟨fun y hy=>by have:=(hm y hy).1;lia,hp⟩,fun y hy=>?_⟩
        rcases List.mem_cons.mp hy with rfl|hy
        · exact ⟨h1,by lia⟩
        · have:=hm y hy
          exact ⟨by lia,this.2⟩
      | _=>cases h
    · rintro ⟨ms,e,hp,hm⟩
      cases ms with
      | nil=>cases e
      | cons i ms =>
        rw [List.map_cons] at e
        injection e with e1 e2
        subst e1 e2
        have h0:=hm i List.mem_cons_self
        have hp:=List.pairwise_cons.mp hp
        rw [riG,decide_eq_true h0.1,decide_eq_true (show (i:Int)<n by lia),Bool.true_and,Bool.true_and]
        exact (ydd (by lia)).mpr ⟨ms,rfl,hp.2,fun y hy=>⟨by have:=hp.1 y hy;lia,(hm y (List.mem_cons_of_mem _ hy)).2⟩⟩
theorem ygQ {n:Nat} {b:Int} (h:isI x=false):riG n b (x::xs)=false:=by
  cases x with
  | int i=>cases h
  | _=>rfl
noncomputable def WP (o0:Option (List V)) (x1 x2:V) (o3:Option (List V)):Prop:=Ex5 fun (p m t few root:Nat)=>Ex2 fun (n:Nat) (marks:List Nat)=>o0=some [Vn p,Vn m,Vn t]∧Good p m t∧x1=Vn few∧x2=Vn root∧o3=some (marks.map Vn)∧Whl p m t few root n marks
def wB (o0:Option (List V)) (x1 x2:V) (o3:Option (List V)):Bool:=@decide (WP o0 x1 x2 o3) (Classical.propDecidable _)
theorem zgp {o0 o3:Option (List V)} (h:¬ WP o0 x1 x2 o3):wB o0 x1 x2 o3=false:=@decide_eq_false _ (Classical.propDecidable _) h
theorem wB_b {o0 o3:Option (List V)} {b:Bool} (h:b=true↔WP o0 x1 x2 o3):wB o0 x1 x2 o3=b:=by
  cases b with
  | true=>exact @decide_eq_true _ (Classical.propDecidable _) (h.mp rfl)
  | false=>exact zgp fun c=>absurd (h.mpr c) (by decide)
theorem ye3 {o:Option (List V)} (h:opB fB o=true):Ex3 fun (p m t:Nat)=>o=some [Vn p,Vn m,Vn t]∧Good p m t:=by
  cases o with
  | none=>cases h
  | some xs =>
    have h:fB xs=true:=h
    unfold fB at h
    split at h
    · obtain ⟨p,m,t,rfl,rfl,rfl,G⟩:=@of_decide_eq_true _ (Classical.propDecidable _) h
      exact ⟨p,m,t,rfl,G⟩
    · cases h
theorem vn3 {p m t p' m' t':Nat} (h:some [Vn p,Vn m,Vn t]=some [Vn p',Vn m',Vn t']):p=p'∧m=m'∧t=t':=by
  injection h with h
  injection h with h1 h
  injection h with h2 h
  injection h with h3 h
  exact ⟨Int.ofNat.inj (V.int.inj h1),Int.ofNat.inj (V.int.inj h2),Int.ofNat.inj (V.int.inj h3)⟩
theorem ya0 {i j:Nat} (h:Vn i=Vn j):i=j:=Int.ofNat.inj (V.int.inj h)
noncomputable def ResW (K:PySem.W.Frag) (H:Hp) (x:V) (b:Bool):Prop:=(∃T,yaU K H x T∧T≠"tuple"∧b=false)∨(Ex2 fun (a:Addr) (xs:List V)=>x = .ref a∧SqT K H a xs∧xs.length≠4∧xs.length≤200∧b=false)∨
  Ex5 fun (a:Addr) (x0 x1 x2 x3:V)=>Ex2 fun (o0 o3:Option (List V))=>x = .ref a∧SqT K H a [x0,x1,x2,x3]∧Lk K H x0 o0∧Kd K H x1∧Kd K H x2∧Lk K H x3 o3∧b=wB o0 x1 x2 o3
section
variable {P:Program} {w:World} {mg:Str→Option Value} {base:Heap} {f:Addr} {fd:FuncData}
inductive zbU (K:PySem.W.Frag) (vs:List V) (H:Hp) (Q:VK) (E:XK):Prop
  | mk (x:V) (n:Nat) (o:Option (List V)) (c1:vs=[x,Vn n]) (c2:Lk K H x o) (c3:Q (.bl (opB (riG n (-1)) o)) H):zbU K vs H Q E
theorem ya2:yaf ["thing","n","before","mark"] ["thing","n"] (zac zbI):=⟨rfl,rfl,rfl,by decide +kernel,rfl,by decide +kernel,by decide +kernel⟩
theorem yev (B:Bl mg) (h_is_whole:Has P w K mg base 1 "is_whole" ["thing"] (zds K)) (F:Fun K "is_rising" "is_rising" zbI f fd):FnOk P w K mg base CX0 2 f fd ["thing","n"] (zbU K):=by
  refine F.ok ya2 (fun vs H Q E h=>?_) (fun cdv A outer s H vs Q E hr h=>?_)
  · obtain ⟨x,n,o,rfl,_⟩:=h;rfl
  obtain ⟨x,n,o,rfl,hx,q⟩:=h
  refine ⟨_,(((@zau _ _ _ _ (@yar _ _ _ (yau>>>("isinstance",PyProof.Rows.boot_isinstance,((pv 0)>=>("tuple"⊂zaj)>=>yaa))) (by intro _;rfl)))*>((~~~(yaF⁻¹)),yae))<=<(2<|>ya2.nd<|>(@zch _ _ _ _ _ _ zbw zaa))<=<((@zcP _ _ _ _ (pv 0))<&>((3&&&ya2.nd),(((@PW.pt _ _ _ (@yaQ _ _ _ _ _ _ _ (@zau _ _ _ _ (@yar _ _ _ (@zad _ _ _ _ _ _ _ _ _ _ _ h_is_whole hr (by lia) rfl ((pv 3)>=>yaa) (by decide) (by rfl) (by rfl)) (by intro _;rfl))) (@yaD _ _ _ _ (@zau _ _ _ _ (@zbC _ _ _ _ _ _ _ _ _ _ _ _ zdm zdm (pv 2) (pv 3) (pv 1) (by with_unfolding_all rfl))))))*>((~~~(yaF⁻¹)),yae))<=<(~~~(2<|>ya2.nd<|>(pv 3))))))<=<(~~~(yaF⁻¹))),?_⟩
  try dsimp only [cxOf]
  rcases hx with ⟨T,hk,hT,rfl⟩ | ⟨a,xs,rfl,ha,hl,hkd,rfl⟩
  · refine ⟨_,rfl,x,T,rfl,hk,_,rfl,?_⟩
    have e:subK T "tuple"=false:=by unfold subK;simp [hT]
    rw [e]
    exact ite2 (fun _=>q) (fun c=>absurd rfl c)
  refine ⟨_,rfl,.ref a,"tuple",rfl,.inl (.inr ⟨rfl,xs,ha⟩),_,rfl,?_⟩
  refine ite2 (fun c=>absurd c (by decide)) (fun _=>?_)
  dsimp only [yaS]
  have q:Q (.bl (riG n (-1) xs)) H:=q
  refine ⟨_,rfl,?_⟩
  dsimp only [yat]
  refine ⟨_,rfl,a,rfl,⟨_,ha⟩,?_⟩
  refine ycx (zbx (xs:=xs)) (fun i σ' H'=>H'=H∧Ex2 fun (b:Int) (v3:Option V)=>riG n (-1) xs=riG n b (xs.drop i)∧σ'=[some (.ref a),some (Vn n),some (.int b),v3]) ⟨rfl,-1,_,rfl,rfl⟩ (fun i σ' H' _ h=>by rw [h.1];exact ha) ?_ ?_
  · rintro i z σ' Ha Hb hi ⟨rfl,b,v3,hb,rfl⟩ ⟨rfl,ez⟩
    have hd:xs.drop i=z::xs.drop (i+1):=by
      have hi:i<xs.length:=hi
      rw [List.getElem?_eq_getElem hi] at ez
      cases ez
      exact List.drop_eq_getElem_cons hi
    rw [hd] at hb
    obtain ⟨T,hk⟩:=hkd z (List.mem_of_getElem? ez)
    dsimp only [yat]
    refine ⟨_,rfl,z,T,rfl,hk,_,rfl,?_⟩
    rw [yby hk]
    cases hz:isI z with
    | false =>
      refine ite2 (fun _=>?_) (fun c=>absurd rfl c)
      refine ite2 (fun _=>?_) (fun c=>absurd rfl c)
      rw [hb,ygQ hz] at q
      exact q
    | true =>
      obtain ⟨i',rfl⟩:∃i',z = .int i':=by cases z <;> first|exact ⟨_,rfl⟩|cases hz
      refine ite2 (fun c=>absurd c (by decide)) (fun _=>?_)
      rw [riG] at hb
      refine ⟨_,rfl,_,rfl,_,_,rfl,rfl,decide (b<i'),rfl,?_⟩
      by_cases c1:b<i'
      case neg =>
        rw [decide_eq_false c1]
        refine ite2 (fun c=>absurd c (by decide)) (fun _=>?_)
        refine ⟨false,rfl,?_⟩
        refine ite2 (fun _=>?_) (fun c=>absurd rfl c)
        rw [hb,decide_eq_false c1] at q
        exact q
      rw [decide_eq_true c1]
      refine ite2 (fun _=>?_) (fun c=>absurd rfl c)
      refine ⟨_,rfl,_,_,rfl,rfl,decide (i'<(n:Int)),rfl,?_⟩
      rw [decide_eq_true c1,Bool.true_and] at hb
      by_cases c2:i'<(n:Int)
      case neg =>
        rw [decide_eq_false c2]
        refine ite2 (fun _=>?_) (fun c=>absurd rfl c)
        rw [hb,decide_eq_false c2] at q
        exact q
      rw [decide_eq_true c2]
      refine ite2 (fun c=>absurd c (by decide)) (fun _=>?_)
      dsimp only [yaS]
      rw [decide_eq_true c2,Bool.true_and] at hb
      exact ⟨_,rfl,rfl,i',_,hb,rfl⟩
  · rintro σ' Ha ⟨rfl,b,v3,e,rfl⟩
    rw [e,List.drop_of_length_le (Nat.le_refl _)] at q
    exact q
inductive ybI (K:PySem.W.Frag) (vs:List V) (H:Hp) (Q:VK) (E:XK):Prop
  | mk (x:V) (b:Bool) (c1:vs=[x]) (c2:ResW K H x b) (c3:∀H',Same H H'→Q (.bl b) H'):ybI K vs H Q E
theorem yaC:yaf ["thing","field","few","root","marks","n","q"] ["thing"] (zac zbD):=⟨rfl,rfl,rfl,by decide +kernel,rfl,by decide +kernel,by decide +kernel⟩
theorem zd0 (B:Bl mg) (h_is_field:Has P w K mg base 6 "is_field" ["thing"] (yaY K)) (h_is_whole:Has P w K mg base 1 "is_whole" ["thing"] (zds K)) (h_many_things:Has P w K mg base 2 "many_things" ["field"] (zbN K)) (h_length:Has P w K mg base 5 "length" ["wheel"] (zcC K)) (h_number_power:Has P w K mg base 1 "number_power" ["base","many"] yag) (h_is_rising:Has P w K mg base 2 "is_rising" ["thing","n"] (zbU K)) (F:Fun K "is_wheel" "is_wheel" zbD f fd):FnOk P w K mg base CX0 7 f fd ["thing"] (ybI K):=by
  refine F.ok yaC (fun vs H Q E h=>?_) (fun cdv A outer s H vs Q E hr h=>?_)
  · obtain ⟨x,b,rfl,_⟩:=h;rfl
  obtain ⟨x,b,rfl,hx,q⟩:=h
  refine ⟨_,(((@PW.pt _ _ _ (@yaQ _ _ _ _ _ _ _ (@zau _ _ _ _ (@yar _ _ _ (yau>>>("isinstance",PyProof.Rows.boot_isinstance,((pv 0)>=>("tuple"⊂zaj)>=>yaa))) (by intro _;rfl))) (@yaD _ _ _ _ (zbW∪(yah>>>("len",PySem.boot_len,((pv 0)>=>yaa)))∪zaa))))*>((~~~(yaF⁻¹)),yae))<=<((pv 0)≈((1&&&yaC.nd)∩((2&&&yaC.nd)∩((3&&&yaC.nd)∩((4&&&yaC.nd)∩yaA)))))<=<((@PW.pt _ _ _ (@yaQ _ _ _ _ _ _ _ (@zau _ _ _ _ (@yar _ _ _ (@zad _ _ _ _ _ _ _ _ _ _ _ h_is_field hr (by lia) rfl ((pv 1)>=>yaa) (by decide) (by rfl) (by rfl)) (by intro _;rfl))) (@yaQ _ _ _ _ _ _ _ (@zau _ _ _ _ (@yar _ _ _ (@zad _ _ _ _ _ _ _ _ _ _ _ h_is_whole hr (by lia) rfl ((pv 2)>=>yaa) (by decide) (by rfl) (by rfl)) (by intro _;rfl))) (@yaD _ _ _ _ (@zau _ _ _ _ (@yar _ _ _ (@zad _ _ _ _ _ _ _ _ _ _ _ h_is_whole hr (by lia) rfl ((pv 3)>=>yaa) (by decide) (by rfl) (by rfl)) (by intro _;rfl)))))))*>((~~~(yaF⁻¹)),yae))<=<((@PW.pt _ _ _ (@yaQ _ _ _ _ _ _ _ (zdm∪(pv 2)∪zaa) (@yaQ _ _ _ _ _ _ _ (zbW∪(yan|||(zao<<<(pv 1)<<<zaa)|||(pv 2))∪zaa) (@yaD _ _ _ _ (@zau _ _ _ _ (@zbC _ _ _ _ _ _ _ _ _ _ _ _ zdm zdm zaa (pv 3) (@zad _ _ _ _ _ _ _ _ _ _ _ h_many_things hr (by lia) rfl ((pv 1)>=>yaa) (by decide) (by rfl) (by rfl)) (by with_unfolding_all rfl)))))))*>((~~~(yaF⁻¹)),yae))<=<(5<|>yaC.nd<|>(@zad _ _ _ _ _ _ _ _ _ _ _ h_length hr (by lia) rfl ((pv 0)>=>yaa) (by decide) (by rfl) (by rfl)))<=<(6<|>yaC.nd<|>(@zad _ _ _ _ _ _ _ _ _ _ _ h_number_power hr (by lia) rfl ((zao<<<(pv 1)<<<zaa)>=>(pv 2)>=>yaa) (by decide) (by rfl) (by rfl)))<=<(~~~((@yd5 _ _ _ _ _ _ _ (@zad _ _ _ _ _ _ _ _ _ _ _ h_is_rising hr (by lia) rfl ((pv 4)>=>(pv 5)>=>yaa) (by decide) (by rfl) (by rfl)) (@zeV _ _ _ _ _ ((ybC rfl)>>>("all",PyProof.Rows.boot_all,((["mark"]⊆(["marks","n","q"],[4,5,6],["thing","field","few","root","marks","n","q"],zbD,(@zcP _ _ _ _ (pv 4)),(0⊇["mark","marks","n","q"]),zaP,(@ybS _ _ _ _ _ _ _ _ (zcS (K:=K) rfl) (yan|||(zaJ|||(pv 0)|||(pv 3))|||(pv 2)) (pv 1) (by with_unfolding_all rfl))))>=>yaa)))))⁻¹))),?_⟩
  try dsimp only [cxOf]
  rcases hx with ⟨T,hk,hT,rfl⟩ | ⟨a,xs,rfl,ha,h4,hl,rfl⟩ | ⟨a,x0,x1,x2,x3,o0,o3,rfl,ha,l0,⟨T1,k1⟩,⟨T2,k2⟩,l3,rfl⟩
  · refine ⟨_,rfl,x,T,rfl,hk,_,rfl,?_⟩
    have e:subK T "tuple"=false:=by unfold subK;simp [hT]
    rw [e]
    refine ite2 (fun _=>?_) (fun c=>absurd rfl c)
    refine ite2 (fun _=>?_) (fun c=>absurd rfl c)
    exact q _ (Same.refl _)
  · refine ⟨_,rfl,.ref a,"tuple",rfl,.inl (.inr ⟨rfl,xs,ha⟩),_,rfl,?_⟩
    refine ite2 (fun c=>absurd c (by decide)) (fun _=>?_)
    refine ⟨_,rfl,a,xs,rfl,.inr ha,?_⟩
    have ed:decide (V.int (xs.length:Int)=V.int 4)=false:=decide_eq_false fun e=>h4 (by injection e with e;lia)
    refine ⟨rfl,_,rfl,?_⟩
    rw [ed]
    refine ite2 (fun _=>?_) (fun c=>absurd rfl c)
    exact q _ (Same.refl _)
  refine ⟨_,rfl,.ref a,"tuple",rfl,.inl (.inr ⟨rfl,_,ha⟩),_,rfl,?_⟩
  refine ite2 (fun c=>absurd c (by decide)) (fun _=>?_)
  refine ⟨_,rfl,a,_,rfl,.inr ha,rfl,false,rfl,?_⟩
  refine ite2 (fun c=>absurd c (by decide)) (fun _=>?_)
  dsimp only [yaS]
  refine ⟨_,rfl,a,_,rfl,ha,rfl,_,_,rfl,_,_,rfl,_,_,rfl,_,_,rfl,rfl,?_⟩
  refine ⟨_,rfl,x0,_,rfl,l0.res fB,fun H1 s1=>?_⟩
  have q:=fun {H'} s2=>q H' (s1.trans s2)
  have no:¬ WP o0 x1 x2 o3→∀ {H':Hp},Same H1 H'→Q (.bl false) H':=fun h H' s=>by have q:=q s;rw [zgp h] at q;exact q
  cases e0:opB fB o0 with
  | false =>
    refine ⟨_,rfl,?_⟩
    refine ite2 (fun _=>?_) (fun c=>absurd rfl c)
    refine ite2 (fun _=>?_) (fun c=>absurd rfl c)
    refine no (fun ⟨p,m,t,few,root,n,marks,e,G,_⟩=>?_) (Same.refl _)
    subst e
    have:fB [Vn p,Vn m,Vn t]=true:=fB_b (b:=true) ⟨fun _=>G,fun _=>rfl⟩
    rw [show opB fB (some [Vn p,Vn m,Vn t])=fB [Vn p,Vn m,Vn t] from rfl,this] at e0
    cases e0
  | true =>
    obtain ⟨p,m,t,rfl,G⟩:=ye3 e0
    refine ⟨_,rfl,?_⟩
    refine ite2 (fun c=>absurd c (by decide)) (fun _=>?_)
    have hp:=G.hp
    have hm:=G.hm
    have hQ:=G.hq
    have ht:=G.top
    have hp2:=p_le hp hm hQ
    have hm6:=m_le hp hQ
    obtain ⟨fa,rfl,hf⟩:∃fa,x0 = .ref fa∧SqT K H1 fa [Vn p,Vn m,Vn t]:=by
      rcases l0 with ⟨T,h1,h2,h3⟩ | ⟨a,xs,e,h1,hl,h2,h3⟩
      · cases h3
      · cases h3;exact ⟨a,e,Same.tup s1 h1⟩
    have no:(∀few root n marks,x1=Vn few→x2=Vn root→o3=some (marks.map Vn)→¬ Whl p m t few root n marks)→∀ {H':Hp},Same H1 H'→Q (.bl false) H':=fun h=>no fun ⟨p',m',t',few,root,n,marks,e,G',e1,e2,e3,w⟩=>by
      obtain ⟨rfl,rfl,rfl⟩:=vn3 e
      exact h few root n marks e1 e2 e3 w
    have ha1:=Same.tup s1 ha
    have k1:=zaL s1 k1
    have k2:=zaL s1 k2
    have l3:=l3.same s1
    refine ⟨_,rfl,x1,T1,rfl,k1,_,rfl,?_⟩
    rw [yby k1]
    cases z1:isI x1 with
    | false =>
      refine ite2 (fun _=>?_) (fun c=>absurd rfl c)
      refine ite2 (fun _=>?_) (fun c=>absurd rfl c)
      refine no (fun few root n marks e=>?_) (Same.refl _)
      rw [e] at z1;cases z1
    | true =>
    refine ite2 (fun c=>absurd c (by decide)) (fun _=>?_)
    refine ⟨_,rfl,x2,T2,rfl,k2,_,rfl,?_⟩
    rw [yby k2]
    cases z2:isI x2 with
    | false =>
      refine ite2 (fun _=>?_) (fun c=>absurd rfl c)
      refine no (fun few root n marks _ e=>?_) (Same.refl _)
      rw [e] at z2;cases z2
    | true =>
    refine ite2 (fun c=>absurd c (by decide)) (fun _=>?_)
    dsimp only [yaS]
    obtain ⟨fi,rfl⟩:∃i,x1 = .int i:=by cases x1 <;> first|exact ⟨_,rfl⟩|cases z1
    obtain ⟨ri,rfl⟩:∃i,x2 = .int i:=by cases x2 <;> first|exact ⟨_,rfl⟩|cases z2
    refine ⟨_,rfl,_,_,rfl,rfl,decide (fi<1),rfl,?_⟩
    by_cases c1:fi<1
    · rw [decide_eq_true c1]
      refine ite2 (fun _=>?_) (fun c=>absurd rfl c)
      refine ite2 (fun _=>?_) (fun c=>absurd rfl c)
      exact no (fun few root n marks e _ _ W=>by have:=W.few1;injection e with e;lia) (Same.refl _)
    rw [decide_eq_false c1]
    refine ite2 (fun c=>absurd c (by decide)) (fun _=>?_)
    obtain ⟨few,rfl⟩:=Int.eq_ofNat_of_zero_le (show 0≤fi by lia)
    refine ⟨_,rfl,fa,_,_,Vn m,rfl,rfl,hf,rfl,_,rfl,_,_,rfl,rfl,by show (0:Int)<(few:Int);lia,rfl,_,rfl,?_⟩
    have ed:decide (V.int ((m:Int)%(few:Int))=V.int 0)=decide (m%few=0):=zc4 _ _
    rw [ed]
    by_cases c2:m%few=0
    case neg =>
      rw [decide_eq_false c2]
      refine ite2 (fun _=>?_) (fun c=>absurd rfl c)
      refine ite2 (fun _=>?_) (fun c=>absurd rfl c)
      exact no (fun few' root n marks e _ _ W=>by cases ya0 e;exact c2 W.fewm) (Same.refl _)
    rw [decide_eq_true c2]
    refine ite2 (fun c=>absurd c (by decide)) (fun _=>?_)
    have hfm:few≤m:=Nat.le_of_dvd (by lia) (Nat.dvd_of_mod_eq_zero c2)
    refine ⟨_,rfl,_,_,rfl,rfl,decide ((0:Int)<ri),rfl,?_⟩
    by_cases c3:(0:Int)<ri
    case neg =>
      rw [decide_eq_false c3]
      refine ite2 (fun c=>absurd c (by decide)) (fun _=>?_)
      refine ⟨false,rfl,?_⟩
      refine ite2 (fun _=>?_) (fun c=>absurd rfl c)
      exact no (fun few' root n marks _ e _ W=>by have:=W.r0;injection e with e;lia) (Same.refl _)
    rw [decide_eq_true c3]
    refine ite2 (fun _=>?_) (fun c=>absurd rfl c)
    obtain ⟨root,rfl⟩:=Int.eq_ofNat_of_zero_le (show 0≤ri by lia)
    refine ⟨_,rfl,fa,p,m,Vn t,rfl,hf,hp2,by lia,?_⟩
    refine ⟨_,_,rfl,rfl,decide ((root:Int)<((p^m:Nat):Int)),rfl,?_⟩
    by_cases c4:(root:Int)<((p^m:Nat):Int)
    case neg =>
      rw [decide_eq_false c4]
      refine ite2 (fun _=>?_) (fun c=>absurd rfl c)
      exact no (fun few' root' n marks _ e _ W=>by cases ya0 e;have:=W.rq;lia) (Same.refl _)
    rw [decide_eq_true c4]
    refine ite2 (fun c=>absurd c (by decide)) (fun _=>?_)
    dsimp only [yaS]
    refine ⟨_,rfl,a,fa,p,m,t,few,root,x3,rfl,ha1,hf,G,by lia,by lia,fun n o hn=>?_⟩
    dsimp only [yat]
    refine ⟨_,rfl,fa,_,_,Vn p,rfl,rfl,hf,rfl,_,rfl,p,few,rfl,hp2,by lia,?_⟩
    dsimp only [yat]
    have hqq:p^few≤64:=Nat.le_trans (Nat.pow_le_pow_right (by lia) hfm) hQ
    have hn0:=o.pos
    refine ⟨_,rfl,_,rfl,x3,n,o3,rfl,l3,_,rfl,?_⟩
    cases z3:opB (riG n (-1)) o3 with
    | false =>
      refine ite2 (fun c=>absurd c (by decide)) (fun _=>?_)
      refine no (fun few' root' n' marks e1 e2 e3 W=>?_) (Same.refl _)
      cases ya0 e1;cases ya0 e2;cases W.ord.uniq o;subst e3
      have:riG n (-1) (marks.map Vn)=true:=(ydd (Int.le_refl _)).mpr ⟨marks,rfl,W.asc,fun x hx=>⟨by lia,W.lt x hx⟩⟩
      rw [show opB (riG n (-1)) (some (marks.map Vn))=riG n (-1) (marks.map Vn) from rfl,this] at z3
      cases z3
    | true =>
    refine ite2 (fun _=>?_) (fun c=>absurd rfl c)
    obtain ⟨mk,marks,rfl,hk,asc,lt,rfl⟩:Ex2 fun (mk:Addr) (marks:List Nat)=>x3 = .ref mk∧SqT K H1 mk (marks.map Vn)∧marks.Pairwise (· < ·)∧(∀x∈marks,x<n)∧o3=some (marks.map Vn):=by
      rcases l3 with ⟨T,h1,h2,rfl⟩ | ⟨mk,xs,e,h1,hl,h2,rfl⟩
      · cases z3
      · obtain ⟨marks,rfl,h3,h4⟩:=(ydd (Int.le_refl _)).mp z3
        exact ⟨mk,marks,e,h1,h3,fun x hx=>(h4 x hx).2,rfl⟩
    refine ⟨_,rfl,mk,rfl,⟨_,hk⟩,?_⟩
    have hml:=zbF asc lt
    refine yav (zbx (xs:=marks.map Vn)) (fun k acc H'=>H'=H1∧acc=((marks.take k).map fun x=>decide (x*p^few%n∈marks)).map V.bl) ⟨rfl,rfl⟩ (fun k acc H' _ h=>by rw [h.1];exact hk) ?_ ?_ ?_
    · rintro k acc H' hk ⟨_,rfl⟩
      rw [List.length_map,List.length_map,List.length_take];exact yai (by lia)
    · rintro k acc z Ha Hb hk' ⟨rfl,rfl⟩ ⟨rfl,ez⟩
      rw [List.length_map] at hk'
      rw [ybm hk'] at ez
      cases ez
      have hg:marks[k]?=some (marks.getD k 0):=by simp [List.getD,hk']
      have hmm:marks.getD k 0∈marks:=List.mem_of_getElem? hg
      rw [zaQ hg]
      generalize marks.getD k 0=x at hmm ⊢
      have hxn:=lt x hmm
      refine ⟨_,rfl,_,rfl,_,_,rfl,rfl,.inl ⟨by show -(2^64:Int)<(x:Int);lia,by show (x:Int)<2^64;lia⟩,_,rfl,_,_,rfl,rfl,by show (0:Int)<(n:Int);lia,?_⟩
      refine ⟨_,rfl,mk,_,rfl,.inr hk,rfl,ycR marks,rfl,?_⟩
      have e:inV (V.int ((x:Int)*((p^few:Nat):Int)%(n:Int))) (marks.map Vn)=decide (x*p^few%n∈marks):=zdE (x*p^few%n) marks
      rw [List.map_append,List.map_append]
      show _++[V.bl (inV (V.int ((x:Int)*((p^few:Nat):Int)%(n:Int))) (marks.map Vn))]=_
      rw [e];rfl
    rintro acc Ha ⟨rfl,rfl⟩ D hD
    rw [List.length_map,List.take_length]
    refine ⟨D,_,rfl,SqL.of zab,?_⟩
    show Q (V.bl (List.all _ id)) _
    have q:=q (yab hD (.lst ((marks.map fun x=>decide (x*p^few%n∈marks)).map V.bl)))
    rw [wB_b (b:=(marks.map fun x=>decide (x*p^few%n∈marks)).all id) ?_] at q
    · exact q
    rw [List.all_map,List.all_eq_true]
    constructor
    · intro h
      exact ⟨p,m,t,few,root,n,marks,rfl,G,rfl,rfl,rfl,⟨by lia,c2,by lia,by lia,o,hn,asc,lt,fun x hx=>of_decide_eq_true (h x hx)⟩⟩
    · rintro ⟨p',m',t',few',root',n',marks',e,G',e1,e2,e3,W⟩ x hx
      obtain ⟨rfl,rfl,rfl⟩:=vn3 e
      cases ya0 e1;cases ya0 e2;cases W.ord.uniq o
      have em:marks=marks':=by
        injection e3 with e3
        exact (List.map_inj_right (fun a b h=>ya0 h)).mp e3
      subst em
      exact decide_eq_true (W.closed x hx)
end
end My
end
section
set_option exponentiation.threshold 1100
namespace My
open PySem L2 Dg
def inR (lo hi:Int):V→Bool
  | .int i=>decide (lo≤i∧i≤hi)
  | _=>false
theorem ygn (h:isI z=true):∃i,z = .int i:=by cases z <;> first|exact ⟨_,rfl⟩|cases h
theorem zbY {lo hi:Int} (h:inR lo hi z=true) (h0:0≤lo):∃i:Nat,z=Vn i∧lo≤(i:Int)∧(i:Int)≤hi:=by
  cases z with
  | int i =>
    have h:=of_decide_eq_true h
    obtain ⟨i,rfl⟩:=Int.eq_ofNat_of_zero_le (show 0≤i by lia)
    exact ⟨i,rfl,h.1,h.2⟩
  | _=>cases h
theorem yeU {lo hi:Int} {i:Nat}:inR lo hi (Vn i)=decide (lo≤(i:Int)∧(i:Int)≤hi):=rfl
theorem ygG (h:fB xs=true):xs.length=3∧xs.all (inR 0 64)=true:=by
  obtain ⟨p,m,t,e,G⟩:=ye3 (o:=some xs) h
  injection e with e
  subst e
  have:=p_le G.hp G.hm G.hq
  have:=m_le G.hp G.hq
  have:=G.top
  have:=G.hq
  refine ⟨rfl,?_⟩
  simp only [List.all_cons,List.all_nil,Bool.and_true,yeU,Bool.and_eq_true]
  exact ⟨decide_eq_true (by lia),decide_eq_true (by lia),decide_eq_true (by lia)⟩
theorem yfG (hl:xs.length=3) (h:xs.all (inR 0 64)=true):Ex3 fun (p m t:Nat)=>xs=[Vn p,Vn m,Vn t]∧p≤64∧m≤64∧t≤64:=by
  match xs,hl with
  | [x,y,z],_ =>
    simp only [List.all_cons,List.all_nil,Bool.and_true,Bool.and_eq_true] at h
    obtain ⟨p,rfl,_,h1⟩:=zbY h.1 (Int.le_refl _)
    obtain ⟨m,rfl,_,h2⟩:=zbY h.2.1 (Int.le_refl _)
    obtain ⟨t,rfl,_,h3⟩:=zbY h.2.2 (Int.le_refl _)
    exact ⟨p,m,t,rfl,by lia,by lia,by lia⟩
theorem zhd {K:PySem.W.Frag} {mg:Str→Option Value} {k:Nat} (h:Has P w K mg base k x ps (ycc K)):Has P w K mg base k x ps (zdZ K):=by
  obtain ⟨f,fd,F,B,kp,m⟩:=h
  refine ⟨f,fd,F.imp fun vs H Q E h=>?_,B,kp,m⟩
  obtain ⟨a,p,m,t,e,h1,h2,h3,h4,h5,q⟩:=h
  exact ⟨a,p,m,t,e,h1,h2,h3,h4,h5,fun b H' s hb=>q b H' s hb.mp⟩
section
variable {P:Program} {w:World} {mg:Str→Option Value} {base:Heap} {f:Addr} {fd:FuncData}
inductive ybQ (K:PySem.W.Frag) (vs:List V) (H:Hp) (Q:VK) (E:XK):Prop
  | mk (x:V) (T:String) (lo hi:Int) (c1:vs=[x,.int lo,.int hi]) (c2:yaU K H x T) (c3:Q (.bl (inR lo hi x)) H):ybQ K vs H Q E
theorem ycZ:yaf ["_law_thing","_law_low","_law_high"] ["_law_thing","_law_low","_law_high"] (zac ybq):=⟨rfl,rfl,rfl,by decide +kernel,rfl,by decide +kernel,by decide +kernel⟩
theorem zeW (B:Bl mg) (F:Fun K "_law_whole" "_law_whole" ybq f fd):FnOk P w K mg base CX0 1 f fd ["_law_thing","_law_low","_law_high"] (ybQ K):=by
  refine F.ok ycZ (fun vs H Q E h=>?_) (fun cdv A outer s H vs Q E hr h=>?_)
  · obtain ⟨x,T,lo,hi,rfl,_⟩:=h;rfl
  obtain ⟨x,T,lo,hi,rfl,hk,q⟩:=h
  refine ⟨_,(~~~((@yd5 _ _ _ _ _ _ _ (zcd>>>("isinstance",PyProof.Rows.boot_isinstance,((pv 0)>=>("int"⊂zbf)>=>yaa))) (@yd5 _ _ _ _ _ _ _ (@yf7 _ _ _ _ (zcr>>>("isinstance",PyProof.Rows.boot_isinstance,((pv 0)>=>("bool"⊂ybl)>=>yaa)))) (@zeV _ _ _ _ _ (@yfN _ _ _ _ _ _ _ _ _ _ _ _ ycG ycG (pv 1) (pv 0) (pv 2) (by with_unfolding_all rfl)))))⁻¹)),?_⟩
  try dsimp only [cxOf]
  by_cases hI:isI x=true
  · obtain ⟨i,rfl⟩:=ygn hI
    have hT:T = "int":=eq_of_beq ((yby hk).trans hI)
    subst hT
    refine ⟨_,rfl,_,"int",rfl,hk,_,rfl,?_⟩
    refine ite2 (fun _=>?_) (fun c=>absurd rfl c)
    refine ⟨_,rfl,_,"int",rfl,hk,_,rfl,_,rfl,?_⟩
    refine ite2 (fun _=>?_) (fun c=>absurd rfl c)
    refine ⟨_,rfl,_,rfl,_,_,rfl,rfl,_,rfl,?_⟩
    refine ite2 (fun c=>?_) (fun c=>?_)
    · refine ⟨_,rfl,_,_,rfl,rfl,?_⟩
      have e:decide (lo≤i∧i≤hi)=decide (i≤hi):=decide_eq_decide.mpr ⟨fun h=>h.2,fun h=>⟨of_decide_eq_true c,h⟩⟩
      change Q (.bl (decide (lo≤i∧i≤hi))) H at q
      rw [e] at q;exact q
    · have e:inR lo hi (.int i)=false:=decide_eq_false fun h=>c (decide_eq_true h.1)
      rw [e] at q;exact q
  · have e:inR lo hi x=false:=by
      cases x with
      | int i=>exact absurd rfl hI
      | _=>rfl
    rw [e] at q
    have hT:T≠"int":=fun h=>hI (by rw [←yby hk,h];rfl)
    refine ⟨_,rfl,x,T,rfl,hk,_,rfl,?_⟩
    refine ite2 (fun c=>?_) (fun c=>q)
    have h2:T = "bool":=by
      unfold subK at c
      simp [hT] at c
      exact c
    subst h2
    refine ⟨_,rfl,x,"bool",rfl,hk,_,rfl,?_⟩
    exact ⟨false,rfl,ite2 (fun c=>absurd c (by decide)) (fun _=>q)⟩
theorem zaC:yaf ["_law_thing","_law_p","_law_m","_law_top"] ["_law_thing"] (zac zay):=⟨rfl,rfl,rfl,by decide +kernel,rfl,by decide +kernel,by decide +kernel⟩
theorem ydQ (B:Bl mg) (h__law_whole:Has P w K mg base 1 "_law_whole" ["_law_thing","_law_low","_law_high"] (ybQ K)) (h__law_raised:Has P w K mg base 1 "_law_raised" ["_law_one","_law_many"] yag) (h__law_is_good:Has P w K mg base 3 "_law_is_good" ["_law_field_here"] (ycc K)) (F:Fun K "_law_is_field" "_law_is_field" zay f fd):FnOk P w K mg base CX0 4 f fd ["_law_thing"] (yaY K):=by
  refine F.ok zaC (fun vs H Q E h=>?_) (fun cdv A outer s H vs Q E hr h=>?_)
  · obtain ⟨x,b,rfl,_⟩:=h;rfl
  obtain ⟨x,b,rfl,hx,q⟩:=h
  refine ⟨_,(((@PW.pt _ _ _ (@yaQ _ _ _ _ _ _ _ (@zau _ _ _ _ (@yar _ _ _ (yau>>>("isinstance",PyProof.Rows.boot_isinstance,((pv 0)>=>("tuple"⊂zaj)>=>yaa))) (by intro _;rfl))) (@yaQ _ _ _ _ _ _ _ (zbW∪(yah>>>("len",PySem.boot_len,((pv 0)>=>yaa)))∪zaa) (@yaD _ _ _ _ (@zau _ _ _ _ (@yar _ _ _ ((ybC rfl)>>>("all",PyProof.Rows.boot_all,((["_law_one"]⊆([],[],["_law_thing","_law_p","_law_m","_law_top"],zay,(@zcP _ _ _ _ (pv 0)),(0⊇["_law_one"]),zaP,(@zad _ _ _ _ _ _ _ _ _ _ _ h__law_whole hr (by lia) rfl ((pv 0)>=>zaa>=>zaa>=>yaa) (by decide) (by rfl) (by rfl))))>=>yaa))) (by intro _;rfl)))))))*>((~~~(yaF⁻¹)),yae))<=<((pv 0)≈((1&&&zaC.nd)∩((2&&&zaC.nd)∩((3&&&zaC.nd)∩yaA))))<=<((@PW.pt _ _ _ (@yaQ _ _ _ _ _ _ _ (zdm∪(pv 1)∪zaa) (@yaQ _ _ _ _ _ _ _ ((yeM hr.units0)∪(["_law_part"]⊆(["_law_p"],[1],["_law_thing","_law_p","_law_m","_law_top"],zay,(@zaV _ _ _ _ _ _ _ rfl (B "range" (by decide)) (zaa>=>(pv 1)>=>yaa) (by rfl) (by rfl)),(0⊇["_law_part","_law_p"]),(@zcf _ _ _ (zaZ∪(yan|||(pv 1)|||(pv 0))∪zaa)),(pv 0)))∪(@zap _ _ _ _ yaa)) (@yaD _ _ _ _ (@zau _ _ _ _ (@zbC _ _ _ _ _ _ _ _ _ _ _ _ ycG ycG zaa (pv 2) zaa (by with_unfolding_all rfl)))))))*>((~~~(yaF⁻¹)),yae))<=<((@PW.pt _ _ _ (@yaQ _ _ _ _ _ _ _ (ybM∪(@zad _ _ _ _ _ _ _ _ _ _ _ h__law_raised hr (by lia) rfl ((pv 1)>=>(pv 2)>=>yaa) (by decide) (by rfl) (by rfl))∪zaa) (@yaD _ _ _ _ (ygP∪(pv 3)∪(@zad _ _ _ _ _ _ _ _ _ _ _ h__law_raised hr (by lia) rfl ((pv 1)>=>(pv 2)>=>yaa) (by decide) (by rfl) (by rfl))))))*>((~~~(yaF⁻¹)),yae))<=<(~~~((@zad _ _ _ _ _ _ _ _ _ _ _ h__law_is_good hr (by lia) rfl ((pv 0)>=>yaa) (by decide) (by rfl) (by rfl))⁻¹))),?_⟩
  try dsimp only [cxOf]
  rcases hx with ⟨T,hk,hT,rfl⟩ | ⟨a,xs,rfl,ha,hl,hkd,rfl⟩
  · refine ⟨_,rfl,x,T,rfl,hk,_,rfl,?_⟩
    have e:subK T "tuple"=false:=by unfold subK;simp [hT]
    rw [e]
    refine ite2 (fun _=>?_) (fun c=>absurd rfl c)
    refine ite2 (fun _=>?_) (fun c=>absurd rfl c)
    exact q _ (Same.refl _)
  refine ⟨_,rfl,.ref a,"tuple",rfl,.inl (.inr ⟨rfl,xs,ha⟩),_,rfl,?_⟩
  refine ite2 (fun c=>absurd c (by decide)) (fun _=>?_)
  refine ⟨_,rfl,a,xs,rfl,.inr ha,?_⟩
  have ed:decide (V.int (xs.length:Int)=V.int 3)=decide (xs.length=3):=decide_eq_decide.mpr ⟨fun e=>by injection e with e;lia,fun e=>by rw [e];rfl⟩
  refine ⟨rfl,_,rfl,?_⟩
  rw [ed]
  have no0:fB xs=false→∀ {H'},Same H H'→Q (.bl false) H':=fun e H' s=>by have q:=q H' s;rw [e] at q;exact q
  by_cases hc:xs.length=3
  case neg =>
    rw [decide_eq_false hc]
    refine ite2 (fun _=>?_) (fun c=>absurd rfl c)
    refine ite2 (fun _=>?_) (fun c=>absurd rfl c)
    exact no0 (Bool.eq_false_iff.mpr fun e=>hc (ygG e).1) (Same.refl _)
  rw [decide_eq_true hc]
  refine ite2 (fun c=>absurd c (by decide)) (fun _=>?_)
  refine ⟨_,rfl,a,rfl,⟨_,ha⟩,?_⟩
  refine yav (zbx (xs:=xs)) (fun i acc H'=>H'=H∧acc=(xs.take i).map fun e=>V.bl (inR 0 64 e)) ⟨rfl,rfl⟩ (fun i acc H' _ h=>by rw [h.1];exact ha) ?_ ?_ ?_
  · rintro i acc H' hi ⟨_,rfl⟩
    rw [List.length_map,List.length_take];exact yai (by lia)
  · rintro i acc z H2 H2' hi ⟨rfl,rfl⟩ ⟨rfl,ez⟩
    obtain ⟨T,hk⟩:=hkd z (List.mem_of_getElem? ez)
    refine ⟨_,rfl,z,T,0,64,rfl,hk,rfl,?_⟩
    rw [zaQ ez,List.map_append];rfl
  rintro acc H2 ⟨rfl,rfl⟩ D hD
  rw [List.take_length]
  have s1:=yab hD (.lst (xs.map fun e=>V.bl (inR 0 64 e)))
  have hF1:=Same.tup s1 ha
  refine ⟨D,xs.map (inR 0 64),rfl,SqL.of (by rw [zab,List.map_map];rfl),_,rfl,?_⟩
  have e:(xs.map (inR 0 64)).all id=xs.all (inR 0 64):=by rw [List.all_map];rfl
  dsimp only
  rw [e]
  generalize upd H2 D (.lst (xs.map fun e=>V.bl (inR 0 64 e)))=H1 at *
  cases ex:xs.all (inR 0 64) with
  | false =>
    refine ite2 (fun _=>?_) (fun c=>absurd rfl c)
    exact no0 (Bool.eq_false_iff.mpr fun e=>by rw [(ygG e).2] at ex;cases ex) s1
  | true =>
    refine ite2 (fun c=>absurd c (by decide)) (fun _=>?_)
    obtain ⟨p,m,t,rfl,hp64,hm64,ht64⟩:=yfG hc ex
    have q:=fun {H'} s2=>q H' (s1.trans s2)
    dsimp only [yaS]
    have no:¬ Good p m t→∀ {H'},Same H1 H'→Q (.bl false) H':=fun h H' s2=>by have q:=q s2;rw [fB_b (b:=false) ⟨(fun e=>nomatch e),fun G=>absurd G h⟩] at q;exact q
    refine ⟨_,rfl,a,_,rfl,hF1,rfl,_,_,rfl,_,_,rfl,_,_,rfl,rfl,?_⟩
    refine ⟨_,rfl,_,_,rfl,rfl,decide ((p:Int)<2),rfl,?_⟩
    by_cases c1:(p:Int)<2
    · rw [decide_eq_true c1]
      refine ite2 (fun _=>?_) (fun c=>absurd rfl c)
      refine ite2 (fun _=>?_) (fun c=>absurd rfl c)
      exact no (fun G=>by have:=G.hp;lia) (Same.refl _)
    rw [decide_eq_false c1]
    refine ite2 (fun c=>absurd c (by decide)) (fun _=>?_)
    refine ⟨_,rfl,2,((p:Nat):Int),rfl,by lia,?_⟩
    refine yav zbB (fun l acc H'=>H'=H1∧∃ys:List Nat,acc=ys.map Vn∧ys.length≤l∧(ys=[]↔∀j,j<l→p%(2+j)≠0)) ⟨rfl,([]:List Nat),rfl,Nat.le_refl _,⟨fun _ j hj=>absurd hj (Nat.not_lt_zero _),fun _=>rfl⟩⟩ (fun _ _ _ _ _=>trivial) ?_ ?_ ?_
    · rintro l acc H' hl ⟨_,ys,rfl,hl2,_⟩
      rw [List.length_map];exact yai (by lia)
    · rintro l acc x Hx Hy hl ⟨rfl,ys,rfl,hl2,hys⟩ ⟨rfl,rfl⟩
      rw [show V.int (2+(l:Int))=Vn (2+l) from zcZ (by lia)]
      refine ⟨_,rfl,_,rfl,_,_,rfl,rfl,by show (0:Int)<((2+l:Nat):Int);lia,rfl,_,rfl,?_⟩
      rw [zc4]
      by_cases cl:p%(2+l)=0
      · rw [decide_eq_true cl]
        refine ite2 (fun _=>?_) (fun c=>absurd rfl c)
        refine ⟨_,rfl,rfl,ys++[2+l],by rw [List.map_append];rfl,by rw [List.length_append];show ys.length+1≤_;lia,⟨fun e=>absurd e (by simp),fun h=>absurd cl (h l (Nat.lt_succ_self _))⟩⟩
      · rw [decide_eq_false cl]
        refine ite2 (fun c=>absurd c (by decide)) (fun _=>?_)
        refine ⟨rfl,ys,rfl,by lia,hys.trans ⟨fun h j hj=>?_,fun h j hj=>h j (by lia)⟩⟩
        by_cases e:j=l
        · subst e;exact cl
        · exact h j (by lia)
    have hr:(((p:Nat):Int)-2).toNat=p-2:=by lia
    rw [hr]
    rintro acc Hx ⟨rfl,ys,rfl,hyl,hys⟩ D2 hD2
    have s2:=yab hD2 (.lst (ys.map Vn))
    have hF2:=Same.tup s2 hF1
    have e2:upd Hx D2 (.lst (ys.map Vn)) D2=some (.lst (ys.map Vn)):=zab
    generalize upd Hx D2 (.lst (ys.map Vn))=H2 at *
    refine ⟨szl 0,fun e0 he0=>?_⟩
    have s3:=yab he0 (.lst [])
    refine ⟨D2,e0,ys.map Vn,rfl,rfl,SqL.of (s3 _ _ e2),SqL.of zab,_,rfl,?_⟩
    have s23:=s2.trans s3
    have hF3:=Same.tup s23 hF1
    generalize upd H2 e0 (.lst [])=H3 at *
    cases hz:(ys.map Vn).isEmpty with
    | false =>
      refine ite2 (fun _=>?_) (fun c=>absurd rfl c)
      refine ite2 (fun _=>?_) (fun c=>absurd rfl c)
      refine no (fun G=>?_) s23
      have:ys=[]:=hys.mpr fun j hj=>ydp G.mem (low:=2+j) (by lia) (by lia)
      rw [this] at hz;cases hz
    | true =>
    have hys:=hys.mp (by cases ys with|nil=>rfl|cons y ys=>cases hz)
    refine ite2 (fun c=>absurd c (by decide)) (fun _=>?_)
    refine ⟨_,rfl,_,_,rfl,rfl,decide ((1:Int)≤m),rfl,?_⟩
    by_cases c3:(1:Int)≤m
    case neg =>
      rw [decide_eq_false c3]
      refine ite2 (fun c=>absurd c (by decide)) (fun _=>?_)
      refine ⟨false,rfl,?_⟩
      refine ite2 (fun _=>?_) (fun c=>absurd rfl c)
      exact no (fun G=>by have:=G.hm;lia) s23
    rw [decide_eq_true c3]
    refine ite2 (fun _=>?_) (fun c=>absurd rfl c)
    refine ⟨_,_,rfl,rfl,decide ((m:Int)≤6),rfl,?_⟩
    by_cases c4:(m:Int)≤6
    case neg =>
      rw [decide_eq_false c4]
      refine ite2 (fun _=>?_) (fun c=>absurd rfl c)
      exact no (fun G=>by have:=m_le G.hp G.hq;lia) s23
    rw [decide_eq_true c4]
    refine ite2 (fun c=>absurd c (by decide)) (fun _=>?_)
    dsimp only [yaS]
    refine ⟨_,rfl,_,rfl,p,m,rfl,by lia,by lia,?_⟩
    refine ⟨_,_,rfl,rfl,decide (((p^m:Nat):Int)>64),rfl,?_⟩
    by_cases c6:((p^m:Nat):Int)>64
    · rw [decide_eq_true c6]
      refine ite2 (fun _=>?_) (fun c=>absurd rfl c)
      refine ite2 (fun _=>?_) (fun c=>absurd rfl c)
      exact no (fun G=>by have:=G.hq;lia) s23
    rw [decide_eq_false c6]
    refine ite2 (fun c=>absurd c (by decide)) (fun _=>?_)
    refine ⟨_,rfl,_,rfl,_,rfl,p,m,rfl,by lia,by lia,?_⟩
    refine ⟨_,_,rfl,rfl,decide ((t:Int)≥((p^m:Nat):Int)),rfl,?_⟩
    by_cases c8:(t:Int)≥((p^m:Nat):Int)
    · rw [decide_eq_true c8]
      refine ite2 (fun _=>?_) (fun c=>absurd rfl c)
      exact no (fun G=>by have:=G.top;lia) s23
    rw [decide_eq_false c8]
    refine ite2 (fun c=>absurd c (by decide)) (fun _=>?_)
    dsimp only [yaS]
    have c5:prB p=true:=List.all_eq_true.mpr fun j hj=>decide_eq_true (Nat.pos_of_ne_zero (hys j (List.mem_range.mp hj)))
    have R:Rg p m t:=⟨by lia,by lia,by lia,by lia⟩
    have mem:(p,m)∈menu:=by
      have:=yga (i:=p-2) (j:=m-1) (by lia) (by lia) (by rw [show 2+(p-2)=p by lia];exact c5) (by rw [show 2+(p-2)=p by lia,show 1+(m-1)=m by lia];lia)
      rwa [show 2+(p-2)=p by lia,show 1+(m-1)=m by lia] at this
    refine ⟨_,rfl,a,p,m,t,rfl,hF3,by lia,by lia,by lia,by lia,fun b H4 s4 hb=>?_⟩
    have q:=q (s23.trans s4)
    rw [fB_b (b:=b) (hb.trans ⟨fun h=>⟨mem,by lia,.inr h⟩,fun G x y h1 h2 h3 h4 h5=>Nat.ne_of_gt (G.noz h1 h2 h4 h5)⟩)] at q
    exact q
end
end My
end
section
set_option exponentiation.threshold 1100
namespace My
open PySem L2 Dg
noncomputable def LkD (K:PySem.W.Frag) (H:Hp) (x:V) (o:Option (List V)):Prop:=Lk K H x o∧(∀xs,o=some xs→∃a,x = .ref a∧H a=some (.tup xs))∧∃d:PyData,DkA d 40000 40∧(∀H',Same H H'→Rd1 K H' x d)∧
  ∀ds,d = .tuple ds→∃xs,o=some xs∧xs.length=ds.length∧∀(i:Nat) y e k,xs[i]?=some y→ds[i]?=some e→e = .int k→y = .int k
theorem LkD.same {K:PySem.W.Frag} {o:Option (List V)} (s:Same H H') (h:LkD K H x o):LkD K H' x o:=by
  obtain ⟨h1,h2,d,h3,h4,h5⟩:=h
  refine ⟨h1.same s,fun xs e=>?_,d,h3,fun H2 s2=>h4 H2 (s.trans s2),h5⟩
  obtain ⟨a,e,h⟩:=h2 xs e
  exact ⟨a,e,s _ _ h⟩
theorem RX.lkd {K:PySem.W.Frag} {H:Hp} {pu g:Addr} {x:V} (h:RX K H pu g 40000 x):∃o,LkD K H x o:=by
  obtain ⟨d,h1,h2,⟨⟨T,h3,h4⟩,n,h5⟩ | ⟨a,xs,ds,rfl,rfl,h3,n,h4,h5,h6,h7⟩⟩:=h
  · exact ⟨none,.inl ⟨T,h3,h4,rfl⟩,fun xs e=>(nomatch e),d,h1,fun H' s=>h2 H' (Same.x s),fun ds e=>absurd e (h5 ds)⟩
  · refine ⟨some xs,.inr ⟨a,xs,rfl,SqT.of h3,h4,fun e he=>(h6 e he).1,rfl⟩,fun ys e=>?_,_,h1,fun H' s=>h2 H' (Same.x s),fun ds' e=>?_⟩
    · injection e with e;subst e;exact ⟨a,rfl,h3⟩
    · injection e with e;subst e;exact ⟨xs,rfl,h5,h7⟩
theorem LkD.known {K:PySem.W.Frag} {H:Hp} {x:V} {o:Option (List V)} {d:PyData} {p m t:Nat} (h5:∀ds,d = .tuple ds→∃xs,o=some xs∧xs.length=ds.length∧∀(i:Nat) y e k,xs[i]?=some y→ds[i]?=some e→e = .int k→y = .int k)
    (e:d.shown=(PyData.tuple ([(p:Int),(m:Int),(t:Int)].map .int)).shown):o=some [Vn p,Vn m,Vn t]:=by
  have e:=yex (by show 2≤3;decide) e
  obtain ⟨xs,rfl,hl,h⟩:=h5 _ e
  match xs,hl with
  | [x,y,z],_=>rw [h 0 x _ _ rfl rfl rfl,h 1 y _ _ rfl rfl rfl,h 2 z _ _ rfl rfl rfl]
noncomputable def ResD (K:PySem.W.Frag) (H:Hp) (x:V) (b:Bool):Prop:=(∃T,yaU K H x T∧T≠"tuple"∧b=false)∨(Ex2 fun (a:Addr) (xs:List V)=>x = .ref a∧SqT K H a xs∧xs.length≠4∧xs.length≤200∧b=false)∨
  Ex5 fun (a:Addr) (x0 x1 x2 x3:V)=>Ex2 fun (o0 o3:Option (List V))=>x = .ref a∧SqT K H a [x0,x1,x2,x3]∧LkD K H x0 o0∧Kd K H x1∧Kd K H x2∧Lk K H x3 o3∧b=wB o0 x1 x2 o3
theorem ResD.same {K:PySem.W.Frag} {b:Bool} (s:Same H H') (h:ResD K H x b):ResD K H' x b:=by
  rcases h with ⟨T,h1,h2⟩ | ⟨a,xs,e,h1,h2⟩ | ⟨a,x0,x1,x2,x3,o0,o3,e,h1,h2,h3,h4,h5,h6⟩
  · exact .inl ⟨T,zaL s h1,h2⟩
  · exact .inr (.inl ⟨a,xs,e,Same.tup s h1,h2⟩)
  · exact .inr (.inr ⟨a,x0,x1,x2,x3,o0,o3,e,Same.tup s h1,h2.same s,h3.same s,h4.same s,h5.same s,h6⟩)
theorem ResD.w {K:PySem.W.Frag} {b:Bool} (h:ResD K H x b):ResW K H x b:=by
  rcases h with h|h | ⟨a,x0,x1,x2,x3,o0,o3,e,h1,h2,h3⟩
  · exact .inl h
  · exact .inr (.inl h)
  · exact .inr (.inr ⟨a,x0,x1,x2,x3,o0,o3,e,h1,h2.1,h3⟩)
theorem ThW.res {K:PySem.W.Frag} (h:ThW K H pu g x):∃b,ResD K H x b:=by
  rcases h with ⟨⟨T,h1,h2⟩,_⟩ | ⟨a,xs,e,h1,_,h2,h3⟩ | ⟨a,x0,x1,x2,x3,e,h1,_,h2,h3,h4,h5⟩
  · exact ⟨false,.inl ⟨T,h1,h2,rfl⟩⟩
  · exact ⟨false,.inr (.inl ⟨a,xs,e,h1,h2,h3,rfl⟩)⟩
  · obtain ⟨o0,l0⟩:=h2.lkd
    obtain ⟨o3,l3⟩:=h5.lk
    exact ⟨_,.inr (.inr ⟨a,x0,x1,x2,x3,o0,o3,e,h1,l0,h3.1,h4.1,l3,rfl⟩)⟩
theorem zbR:∀ {l l':List Int},l.Pairwise (· < ·)→l'.Pairwise (· < ·)→(∀x,x∈l↔x∈l')→l=l'
  | [],[],_,_,_=>rfl
  | [],y::l',_,_,h=>absurd ((h y).mpr List.mem_cons_self) (by simp)
  | x::l,[],_,_,h=>absurd ((h x).mp List.mem_cons_self) (by simp)
  | x::l,y::l',h1,h2,h=>by
    have h1:=List.pairwise_cons.mp h1
    have h2:=List.pairwise_cons.mp h2
    have e:x=y:=by
      rcases List.mem_cons.mp ((h x).mp List.mem_cons_self) with e|e
      · exact e
      · rcases List.mem_cons.mp ((h y).mpr List.mem_cons_self) with e2|e2
        · exact e2.symm
        · have:=h2.1 x e;have:=h1.1 y e2;lia
    subst e
    rw [zbR h1.2 h2.2 fun z=>⟨fun hz=>?_,fun hz=>?_⟩]
    · rcases List.mem_cons.mp ((h z).mp (List.mem_cons_of_mem _ hz)) with e|e
      · have:=h1.1 z hz;lia
      · exact e
    · rcases List.mem_cons.mp ((h z).mpr (List.mem_cons_of_mem _ hz)) with e|e
      · have:=h2.1 z hz;lia
      · exact e
theorem zf0 {n:Nat}:∀ {xs:List V},xs.all (inR 0 ((n:Int)-1))=true→∃marks:List Nat,xs=marks.map Vn∧∀x∈marks,x<n
  | [],_=>⟨[],rfl,fun _ h=>nomatch h⟩
  | x::xs,h=>by
    rw [List.all_cons,Bool.and_eq_true] at h
    obtain ⟨i,rfl,_,hi⟩:=zbY h.1 (Int.le_refl _)
    obtain ⟨ms,rfl,hm⟩:=zf0 h.2
    exact ⟨i::ms,rfl,fun y hy=>(List.mem_cons.mp hy).elim (fun e=>by rw [e];lia) (hm y)⟩
theorem ygF {n:Nat} {marks:List Nat} (h:∀x∈marks,x<n):(marks.map Vn).all (inR 0 ((n:Int)-1))=true:=by
  rw [List.all_map,List.all_eq_true]
  exact fun x hx=>decide_eq_true (by have:=h x hx;lia)
theorem ze0 {marks:List Nat}:(marks.map fun x:Nat=>(x:Int)).Pairwise (· < ·)↔marks.Pairwise (· < ·):=by
  rw [List.pairwise_map]
  exact ⟨fun h=>h.imp fun h=>by lia,fun h=>h.imp fun h=>by lia⟩
section
variable {P:Program} {w:World} {mg:Str→Option Value} {base:Heap} {f:Addr} {fd:FuncData}
inductive yda (K:PySem.W.Frag) (vs:List V) (H:Hp) (Q:VK) (E:XK):Prop
  | mk (x:V) (b:Bool) (ka:Addr) (p m t:Nat) (c1:vs=[x,.ref ka]) (c2:ResD K H x b) (c3:H ka=some (.tup [Vn p,Vn m,Vn t])) (c4:Good p m t) (c5:∀H',Same H H'→Q (.bl b) H'):yda K vs H Q E
theorem zaD:yaf ["_law_thing","_law_known","_law_field_here","_law_few","_law_root","_law_marks_here","_law_n","_law_q"] ["_law_thing","_law_known"] (zac za9):=⟨rfl,rfl,rfl,by decide +kernel,rfl,by decide +kernel,by decide +kernel⟩
theorem yfB (B:Bl mg) (h__law_whole:Has P w K mg base 1 "_law_whole" ["_law_thing","_law_low","_law_high"] (ybQ K)) (h__law_raised:Has P w K mg base 1 "_law_raised" ["_law_one","_law_many"] yag) (h__law_is_field:Has P w K mg base 4 "_law_is_field" ["_law_thing"] (yaY K)) (h__law_table:Has P w K mg base 3 "_law_table" ["_law_field_here"] ycd) (h__law_roots:Has P w K mg base 2 "_law_roots" ["_law_table_here","_law_root"] zbK) (F:Fun K "_law_due" "_law_due" za9 f fd):FnOk P w K mg base CX0 5 f fd ["_law_thing","_law_known"] (yda K):=by
  refine F.ok zaD (fun vs H Q E h=>?_) (fun cdv A outer s H vs Q E hr h=>?_)
  · obtain ⟨x,b,ka,p,m,t,rfl,_⟩:=h;rfl
  obtain ⟨x,b,ka,p0,m0,t0,rfl,hx,hka,G0,q⟩:=h
  refine ⟨_,(((@PW.pt _ _ _ (@yaQ _ _ _ _ _ _ _ (@zau _ _ _ _ (@yar _ _ _ (yau>>>("isinstance",PyProof.Rows.boot_isinstance,((pv 0)>=>("tuple"⊂zaj)>=>yaa))) (by intro _;rfl))) (@yaD _ _ _ _ (zbW∪(yah>>>("len",PySem.boot_len,((pv 0)>=>yaa)))∪zaa))))*>((~~~(yaF⁻¹)),yae))<=<((@PW.pt _ _ _ (@yeb _ _ _ _ _ _ _ (zbW∪((zcJ hr.gd hr.units)>>>("repr",PyProof.Rows.boot_repr,((zao<<<(pv 0)<<<zaa)>=>yaa)))∪((zcJ hr.gd hr.units)>>>("repr",PyProof.Rows.boot_repr,((pv 1)>=>yaa)))) (@ydW _ _ _ _ (@zau _ _ _ _ (@yar _ _ _ (@zad _ _ _ _ _ _ _ _ _ _ _ h__law_is_field hr (by lia) rfl ((zao<<<(pv 0)<<<zaa)>=>yaa) (by decide) (by rfl) (by rfl)) (by intro _;rfl))))))*>((~~~(yaF⁻¹)),yae))<=<((pv 0)≈((2&&&zaD.nd)∩((3&&&zaD.nd)∩((4&&&zaD.nd)∩((5&&&zaD.nd)∩yaA)))))<=<((@PW.pt _ _ _ (@yaQ _ _ _ _ _ _ _ (@zau _ _ _ _ (@yar _ _ _ (@zad _ _ _ _ _ _ _ _ _ _ _ h__law_whole hr (by lia) rfl ((pv 3)>=>zaa>=>(zao<<<(pv 2)<<<zaa)>=>yaa) (by decide) (by rfl) (by rfl)) (by intro _;rfl))) (@yaD _ _ _ _ (ybM∪(yan|||(zao<<<(pv 2)<<<zaa)|||(pv 3))∪zaa))))*>((~~~(yaF⁻¹)),yae))<=<((@PW.pt _ _ _ (@yaQ _ _ _ _ _ _ _ (@zau _ _ _ _ (@yar _ _ _ (@zad _ _ _ _ _ _ _ _ _ _ _ h__law_whole hr (by lia) rfl ((pv 4)>=>zaa>=>(ya1|||(@zad _ _ _ _ _ _ _ _ _ _ _ h__law_raised hr (by lia) rfl ((zao<<<(pv 2)<<<zaa)>=>(zao<<<(pv 2)<<<zaa)>=>yaa) (by decide) (by rfl) (by rfl))|||zaa)>=>yaa) (by decide) (by rfl) (by rfl)) (by intro _;rfl))) (@yaD _ _ _ _ (@zau _ _ _ _ (@yar _ _ _ (yau>>>("isinstance",PyProof.Rows.boot_isinstance,((pv 5)>=>("tuple"⊂zaj)>=>yaa))) (by intro _;rfl))))))*>((~~~(yaF⁻¹)),yae))<=<((@yax _ _ _ _ _ ((yah>>>("len",PySem.boot_len,((@zad _ _ _ _ _ _ _ _ _ _ _ h__law_roots hr (by lia) rfl ((@zad _ _ _ _ _ _ _ _ _ _ _ h__law_table hr (by lia) rfl ((pv 2)>=>yaa) (by decide) (by rfl) (by rfl))>=>(pv 4)>=>yaa) (by decide) (by rfl) (by rfl))>=>yaa)))>=>(@zad _ _ _ _ _ _ _ _ _ _ _ h__law_raised hr (by lia) rfl ((zao<<<(pv 2)<<<zaa)>=>(pv 3)>=>yaa) (by decide) (by rfl) (by rfl))>=>yaa))≈((6&&&zaD.nd)∩((7&&&zaD.nd)∩yaA)))<=<((@PW.pt _ _ _ (@yaQ _ _ _ _ _ _ _ (@zau _ _ _ _ (@yar _ _ _ ((ybC rfl)>>>("all",PyProof.Rows.boot_all,((["_law_mark"]⊆(["_law_n"],[6],["_law_thing","_law_known","_law_field_here","_law_few","_law_root","_law_marks_here","_law_n","_law_q"],za9,(@zcP _ _ _ _ (pv 5)),(0⊇["_law_mark","_law_n"]),zaP,(@zad _ _ _ _ _ _ _ _ _ _ _ h__law_whole hr (by lia) rfl ((pv 0)>=>zaa>=>(ya1|||(pv 1)|||zaa)>=>yaa) (by decide) (by rfl) (by rfl))))>=>yaa))) (by intro _;rfl))) (@yaD _ _ _ _ ((zgd hr.units0)∪(ybv<*("list",za3,((pv 5)>=>yaa)))∪(ycm rfl rfl (B "sorted" (by decide)) rfl (B "set" (by decide)) (pv 5))))))*>((~~~(yaF⁻¹)),yae))<=<(~~~(((ybC rfl)>>>("all",PyProof.Rows.boot_all,((["_law_mark"]⊆(["_law_marks_here","_law_n","_law_q"],[5,6,7],["_law_thing","_law_known","_law_field_here","_law_few","_law_root","_law_marks_here","_law_n","_law_q"],za9,(@zcP _ _ _ _ (pv 5)),(0⊇["_law_mark","_law_marks_here","_law_n","_law_q"]),zaP,(@ybS _ _ _ _ _ _ _ _ (zcS (K:=K) rfl) (yan|||(zaJ|||(pv 0)|||(pv 3))|||(pv 2)) (pv 1) (by with_unfolding_all rfl))))>=>yaa)))⁻¹))),?_⟩
  try dsimp only [cxOf]
  rcases hx with ⟨T,hk,hT,rfl⟩ | ⟨a,xs,rfl,ha,h4,hl,rfl⟩ | ⟨a,x0,x1,x2,x3,o0,o3,rfl,ha,l0,⟨T1,k1⟩,⟨T2,k2⟩,l3,rfl⟩
  · refine ⟨_,rfl,x,T,rfl,hk,_,rfl,?_⟩
    have e:subK T "tuple"=false:=by unfold subK;simp [hT]
    rw [e]
    refine ite2 (fun _=>?_) (fun c=>absurd rfl c)
    refine ite2 (fun _=>?_) (fun c=>absurd rfl c)
    exact q _ (Same.refl _)
  · refine ⟨_,rfl,.ref a,"tuple",rfl,.inl (.inr ⟨rfl,xs,ha⟩),_,rfl,?_⟩
    refine ite2 (fun c=>absurd c (by decide)) (fun _=>?_)
    refine ⟨_,rfl,a,xs,rfl,.inr ha,?_⟩
    have ed:decide (V.int (xs.length:Int)=V.int 4)=false:=decide_eq_false fun e=>h4 (by injection e with e;lia)
    refine ⟨rfl,_,rfl,?_⟩
    rw [ed]
    refine ite2 (fun _=>?_) (fun c=>absurd rfl c)
    exact q _ (Same.refl _)
  have no:¬ WP o0 x1 x2 o3→∀ {H':Hp},Same H H'→Q (.bl false) H':=fun h H' s=>by have q:=q H' s;rw [zgp h] at q;exact q
  refine ⟨_,rfl,.ref a,"tuple",rfl,.inl (.inr ⟨rfl,_,ha⟩),_,rfl,?_⟩
  refine ite2 (fun c=>absurd c (by decide)) (fun _=>?_)
  refine ⟨_,rfl,a,_,rfl,.inr ha,rfl,false,rfl,?_⟩
  refine ite2 (fun c=>absurd c (by decide)) (fun _=>?_)
  dsimp only [yaS]
  obtain ⟨l0k,l0h,d,dk,rd,kn⟩:=l0
  let I1:St→Hp→Prop:=fun σ H1=>Same H H1∧Ex3 fun (p m t:Nat)=>o0=some [Vn p,Vn m,Vn t]∧Good p m t∧σ=[some (.ref a),some (.ref ka),none,none,none,none,none,none]
  refine yaR I1 ?_ ?_
  rotate_left
  · intro D' eD _ _ hcut
    have eD:D'.rt=Q:=eD
    obtain ⟨nd,hnd⟩:=rd H (Same.refl _)
    refine ⟨_,rfl,a,_,_,x0,rfl,rfl,ha,rfl,x0,d,nd,rfl,hnd,dk.sh,Nat.le_trans dk.dp (by decide),dk.len,?_⟩
    have kd:∀n∈[p0,m0,t0],n<100:=fun n hn=>by
      have:=p_le G0.hp G0.hm G0.hq
      have:=m_le G0.hp G0.hq
      have:=G0.top
      have:=G0.hq
      simp only [List.mem_cons,List.not_mem_nil,or_false] at hn
      rcases hn with rfl|rfl|rfl <;> lia
    obtain ⟨_,kl,kk⟩:=zcW kd (by show 3≤100;decide)
    have kr:=yc2 (k:=8) (K:=K) (H:=H) (a:=ka) (ns:=[p0,m0,t0]) (SqT.of hka)
    obtain ⟨nk,hnk⟩:=kr.one
    refine ⟨_,rfl,.ref ka,_,nk,rfl,hnk,kk.sh,Nat.le_trans kk.dp (by decide),Nat.le_trans kl (by decide),?_⟩
    refine ⟨rfl,_,rfl,?_⟩
    by_cases ce:d.shown=(PyData.tuple ([p0,m0,t0].map fun n:Nat=>PyData.int (n:Int))).shown
    · rw [decide_eq_true (congrArg V.str ce)]
      refine ite2 (fun c=>absurd c (by decide)) (fun _=>?_)
      refine ite2 (fun c=>absurd c (by decide)) (fun _=>?_)
      exact hcut _ _ ⟨Same.refl _,p0,m0,t0,LkD.known (K:=K) (H:=H) (x:=x0) kn ce,G0,rfl⟩
    · rw [decide_eq_false (fun e=>ce (V.str.inj e))]
      refine ite2 (fun _=>?_) (fun c=>absurd rfl c)
      refine ⟨_,rfl,a,_,_,x0,rfl,rfl,ha,rfl,x0,_,rfl,l0k.res fB,fun H1 s1=>?_⟩
      cases e0:opB fB o0 with
      | false =>
        refine ⟨_,rfl,?_⟩
        refine ite2 (fun _=>?_) (fun c=>absurd rfl c)
        show D'.rt _ _
        rw [eD]
        refine no (fun ⟨p,m,t,few,root,n,marks,e,G,_⟩=>?_) s1
        subst e
        have:fB [Vn p,Vn m,Vn t]=true:=fB_b (b:=true) ⟨fun _=>G,fun _=>rfl⟩
        rw [show opB fB (some [Vn p,Vn m,Vn t])=fB [Vn p,Vn m,Vn t] from rfl,this] at e0
        cases e0
      | true =>
        obtain ⟨p1,m1,t1,e0,G⟩:=ye3 e0
        refine ⟨_,rfl,?_⟩
        refine ite2 (fun c=>absurd c (by decide)) (fun _=>?_)
        exact hcut _ _ ⟨s1,p1,m1,t1,e0,G,rfl⟩
  rintro σ H1 ⟨s1,p,m,t,rfl,G,rfl⟩
  obtain ⟨fa,rfl,hf⟩:=l0h _ rfl
  clear kn rd dk l0k hka G0
  have hf:=s1 _ _ hf
  have hp:=G.hp
  have hm:=G.hm
  have hQ:=G.hq
  have ht:=G.top
  have hp2:=p_le hp hm hQ
  have hm6:=m_le hp hQ
  have no:(∀few root n marks,x1=Vn few→x2=Vn root→o3=some (marks.map Vn)→¬ Whl p m t few root n marks)→∀ {H':Hp},Same H1 H'→Q (.bl false) H':=fun h H' s=>no (fun ⟨p',m',t',few,root,n,marks,e,G',e1,e2,e3,w⟩=>by
    obtain ⟨rfl,rfl,rfl⟩:=vn3 e
    exact h few root n marks e1 e2 e3 w) (s1.trans s)
  have ha:=Same.tup s1 ha
  have k1:=zaL s1 k1
  have k2:=zaL s1 k2
  have l3:=l3.same s1
  have hkd1:∀ {xs:List V},(∀e∈xs,Kd K H e)→∀e∈xs,Kd K H1 e:=fun h e he=>(h e he).same s1
  have q:=fun {H'} s2=>q H' (s1.trans s2)
  clear s1 hkd1
  refine ⟨_,rfl,a,_,rfl,ha,rfl,_,_,rfl,_,_,rfl,_,_,rfl,_,_,rfl,rfl,?_⟩
  refine ⟨_,rfl,_,rfl,fa,_,_,Vn m,rfl,rfl,SqT.of hf,rfl,x1,T1,1,m,rfl,k1,_,rfl,?_⟩
  cases c1:inR 1 m x1 with
  | false =>
    refine ite2 (fun _=>?_) (fun c=>absurd rfl c)
    refine ite2 (fun _=>?_) (fun c=>absurd rfl c)
    refine no (fun few root n marks e _ _ W=>?_) (Same.refl _)
    have:=W.few1
    have:=Nat.le_of_dvd (by lia) (Nat.dvd_of_mod_eq_zero W.fewm)
    rw [e,yeU,decide_eq_true (by lia)] at c1
    cases c1
  | true =>
  refine ite2 (fun c=>absurd c (by decide)) (fun _=>?_)
  obtain ⟨few,rfl,f1,f2⟩:=zbY c1 (by decide)
  refine ⟨_,rfl,fa,_,_,Vn m,rfl,rfl,SqT.of hf,rfl,_,rfl,_,_,rfl,rfl,by show (0:Int)<(few:Int);lia,_,_,rfl,rfl,_,rfl,?_⟩
  by_cases c2:m%few=0
  case neg =>
    rw [decide_eq_true (show (m:Int)%(few:Int)>0 by lia)]
    refine ite2 (fun _=>?_) (fun c=>absurd rfl c)
    exact no (fun few' root n marks e _ _ W=>by cases ya0 e;exact c2 W.fewm) (Same.refl _)
  rw [decide_eq_false (show ¬ (m:Int)%(few:Int)>0 by lia)]
  refine ite2 (fun c=>absurd c (by decide)) (fun _=>?_)
  dsimp only [yaS]
  refine ⟨_,rfl,_,rfl,fa,_,_,Vn p,rfl,rfl,SqT.of hf,rfl,_,rfl,fa,_,_,Vn m,rfl,rfl,SqT.of hf,rfl,p,m,rfl,hp2,by lia,_,_,rfl,rfl,x2,T2,1,((p^m:Nat):Int)-1,rfl,k2,_,rfl,?_⟩
  cases c3:inR 1 (((p^m:Nat):Int)-1) x2 with
  | false =>
    refine ite2 (fun _=>?_) (fun c=>absurd rfl c)
    refine ite2 (fun _=>?_) (fun c=>absurd rfl c)
    refine no (fun few' root n marks _ e _ W=>?_) (Same.refl _)
    have:=W.r0
    have:=W.rq
    rw [e,yeU,decide_eq_true (by lia)] at c3
    cases c3
  | true =>
  refine ite2 (fun c=>absurd c (by decide)) (fun _=>?_)
  obtain ⟨root,rfl,r1,r2⟩:=zbY c3 (by decide)
  rcases l3 with ⟨T,h3,hT,rfl⟩ | ⟨mk,xs,rfl,hk,hxl,hkd,rfl⟩
  · refine ⟨_,rfl,x3,T,rfl,h3,_,rfl,?_⟩
    have e:subK T "tuple"=false:=by unfold subK;simp [hT]
    rw [e]
    refine ite2 (fun _=>?_) (fun c=>absurd rfl c)
    exact no (fun few' root n marks _ _ e _=>nomatch e) (Same.refl _)
  refine ⟨_,rfl,.ref mk,"tuple",rfl,.inl (.inr ⟨rfl,_,hk⟩),_,rfl,?_⟩
  refine ite2 (fun c=>absurd c (by decide)) (fun _=>?_)
  dsimp only [yaS]
  refine ⟨_,rfl,fa,p,m,t,rfl,hf,G,fun tb pa la b H2 _ _ _ T s2=>⟨_,rfl,tb,fa,pa,la,p,m,t,b,root,rfl,T,by lia,by lia,fun n r H3 o hn s3 nr er=>?_⟩⟩
  refine ⟨r,_,rfl,.inl (SqL.of er),?_⟩
  have s23:=s2.trans s3
  have hf3:=s23 _ _ hf
  refine ⟨_,rfl,fa,_,_,Vn p,rfl,rfl,SqT.of hf3,rfl,_,rfl,p,few,rfl,hp2,by lia,szl 2,fun tt htt=>?_⟩
  have s4:=yab htt (.tup [V.int (((Pwn p m t root n).map Vn).length:Int),V.int ((p^few:Nat):Int)])
  refine ⟨tt,_,rfl,SqT.of zab,rfl,_,_,rfl,_,_,rfl,rfl,?_⟩
  rw [List.length_map,yck] at s4 ⊢
  have s24:=s23.trans s4
  have hk4:=Same.tup s24 hk
  have hkd4:∀e∈xs,Kd K (upd H3 tt (.tup [V.int (n:Int),V.int ((p^few:Nat):Int)])) e:=fun e he=>(hkd e he).same s24
  have q:=fun {H'} s=>q (H':=H') (s24.trans s)
  have no:=fun h {H'} s=>no h (H':=H') (s24.trans s)
  generalize upd H3 tt (.tup [V.int (n:Int),V.int ((p^few:Nat):Int)])=H4 at *
  clear s2 s3 s4 s23 hf3 hf ha htt er nr T
  have hfm:few≤m:=Nat.le_of_dvd (by lia) (Nat.dvd_of_mod_eq_zero c2)
  have hqq:p^few≤64:=Nat.le_trans (Nat.pow_le_pow_right (by lia) hfm) hQ
  have hn0:=o.pos
  refine ⟨_,rfl,mk,rfl,⟨_,hk4⟩,?_⟩
  refine yav (zbx (xs:=xs)) (fun i acc H'=>H'=H4∧acc=(xs.take i).map fun e=>V.bl (inR 0 ((n:Int)-1) e)) ⟨rfl,rfl⟩ (fun i acc H' _ h=>by rw [h.1];exact hk4) ?_ ?_ ?_
  · rintro i acc H' hi ⟨_,rfl⟩
    rw [List.length_map,List.length_take];exact yai (by lia)
  · rintro i acc z Ha Hb hi ⟨rfl,rfl⟩ ⟨rfl,ez⟩
    obtain ⟨T,hk⟩:=hkd4 z (List.mem_of_getElem? ez)
    refine ⟨_,rfl,_,rfl,_,_,rfl,rfl,z,T,0,(n:Int)-1,rfl,hk,rfl,?_⟩
    rw [zaQ ez,List.map_append];rfl
  rintro acc Ha ⟨rfl,rfl⟩ D hD
  rw [List.take_length]
  have s5:=yab hD (.lst (xs.map fun e=>V.bl (inR 0 ((n:Int)-1) e)))
  refine ⟨D,xs.map (inR 0 ((n:Int)-1)),rfl,SqL.of (by rw [zab,List.map_map];rfl),_,rfl,?_⟩
  have e:(xs.map (inR 0 ((n:Int)-1))).all id=xs.all (inR 0 ((n:Int)-1)):=by rw [List.all_map];rfl
  dsimp only
  rw [e]
  have hk5:=Same.tup s5 hk4
  generalize upd Ha D (.lst (xs.map fun e=>V.bl (inR 0 ((n:Int)-1) e)))=H5 at *
  cases c5:xs.all (inR 0 ((n:Int)-1)) with
  | false =>
    refine ite2 (fun _=>?_) (fun c=>absurd rfl c)
    refine ite2 (fun _=>?_) (fun c=>absurd rfl c)
    refine no (fun few' root' n' marks e1 e2 e3 W=>?_) s5
    cases ya0 e1;cases ya0 e2;cases W.ord.uniq o
    injection e3 with e3
    rw [e3,ygF W.lt] at c5
    cases c5
  | true =>
  refine ite2 (fun c=>absurd c (by decide)) (fun _=>?_)
  obtain ⟨marks,rfl,lt⟩:=zf0 c5
  refine ⟨_,rfl,mk,_,rfl,.inr hk5,fun l1 hl1=>?_⟩
  have s6:=yab hl1 (.lst (marks.map Vn))
  have hk6:=Same.tup s6 hk5
  have e6:upd H5 l1 (.lst (marks.map Vn)) l1=some (.lst (marks.map Vn)):=zab
  generalize upd H5 l1 (.lst (marks.map Vn))=H6 at *
  refine ⟨_,rfl,mk,marks.map fun x:Nat=>(x:Int),rfl,by rw [mapI];exact hk6,by rw [List.length_map];rw [List.length_map] at hxl;lia,fun l2 ns' hl2 hlt hmem=>?_⟩
  have s7:=yab hl2 (.lst (ns'.map V.int))
  refine ⟨l1,l2,marks.map fun x:Nat=>(x:Int),ns',rfl,rfl,SqL.of (by rw [mapI];exact s7 _ _ e6),SqL.of zab,_,rfl,?_⟩
  have s57:=s5.trans (s6.trans s7)
  have hk7:=Same.tup s7 hk6
  generalize upd H6 l2 (.lst (ns'.map V.int))=H7 at *
  by_cases asc:marks.Pairwise (· < ·)
  case neg =>
    rw [decide_eq_false (show ¬ (marks.map fun x:Nat=>(x:Int))=ns' from fun e=>asc (ze0.mp (e ▸ hlt)))]
    refine ite2 (fun _=>?_) (fun c=>absurd rfl c)
    refine no (fun few' root' n' marks' e1 e2 e3 W=>asc ?_) s57
    injection e3 with e3
    rw [(List.map_inj_right (fun a b h=>ya0 h)).mp e3]
    exact W.asc
  rw [decide_eq_true (zbR (ze0.mpr asc) hlt fun x=>(hmem x).symm)]
  refine ite2 (fun c=>absurd c (by decide)) (fun _=>?_)
  dsimp only [yaS]
  have q:=fun {H'} s=>q (H':=H') (s57.trans s)
  refine ⟨_,rfl,mk,rfl,⟨_,hk7⟩,?_⟩
  have hml:=zbF asc lt
  refine yav (zbx (xs:=marks.map Vn)) (fun k acc H'=>H'=H7∧acc=((marks.take k).map fun x=>decide (x*p^few%n∈marks)).map V.bl) ⟨rfl,rfl⟩ (fun k acc H' _ h=>by rw [h.1];exact hk7) ?_ ?_ ?_
  · rintro k acc H' hk ⟨_,rfl⟩
    rw [List.length_map,List.length_map,List.length_take];exact yai (by lia)
  · rintro k acc z Ha Hb hk' ⟨rfl,rfl⟩ ⟨rfl,ez⟩
    rw [List.length_map] at hk'
    rw [ybm hk'] at ez
    cases ez
    have hg:marks[k]?=some (marks.getD k 0):=by simp [List.getD,hk']
    have hmm:marks.getD k 0∈marks:=List.mem_of_getElem? hg
    rw [zaQ hg]
    generalize marks.getD k 0=x at hmm ⊢
    have hxn:=lt x hmm
    refine ⟨_,rfl,_,rfl,_,_,rfl,rfl,.inl ⟨by show -(2^64:Int)<(x:Int);lia,by show (x:Int)<2^64;lia⟩,_,rfl,_,_,rfl,rfl,by show (0:Int)<(n:Int);lia,?_⟩
    refine ⟨_,rfl,mk,_,rfl,.inr hk7,rfl,ycR marks,rfl,?_⟩
    have e:inV (V.int ((x:Int)*((p^few:Nat):Int)%(n:Int))) (marks.map Vn)=decide (x*p^few%n∈marks):=zdE (x*p^few%n) marks
    rw [List.map_append,List.map_append]
    show _++[V.bl (inV (V.int ((x:Int)*((p^few:Nat):Int)%(n:Int))) (marks.map Vn))]=_
    rw [e];rfl
  rintro acc Ha ⟨rfl,rfl⟩ D2 hD2
  rw [List.length_map,List.take_length]
  refine ⟨D2,_,rfl,SqL.of zab,?_⟩
  show Q (V.bl (List.all _ id)) _
  have q:=q (yab hD2 (.lst ((marks.map fun x=>decide (x*p^few%n∈marks)).map V.bl)))
  rw [wB_b (b:=(marks.map fun x=>decide (x*p^few%n∈marks)).all id) ?_] at q
  · exact q
  rw [List.all_map,List.all_eq_true]
  constructor
  · intro h
    exact ⟨p,m,t,few,root,n,marks,rfl,G,rfl,rfl,rfl,⟨by lia,c2,by lia,by lia,o,hn,asc,lt,fun x hx=>of_decide_eq_true (h x hx)⟩⟩
  · rintro ⟨p',m',t',few',root',n',marks',e,G',e1,e2,e3,W⟩ x hx
    obtain ⟨rfl,rfl,rfl⟩:=vn3 e
    cases ya0 e1;cases ya0 e2;cases W.ord.uniq o
    have em:marks=marks':=by
      injection e3 with e3
      exact (List.map_inj_right (fun a b h=>ya0 h)).mp e3
    subst em
    exact decide_eq_true (W.closed x hx)
end
end My
end
section
set_option exponentiation.threshold 1100
namespace My
open PySem L2 Dg
theorem ydw {K:PySem.W.Frag} {p m t few root n:Nat} {marks:List Nat} (h:WhAt H wh fa mk few root marks) (hf:H fa=some (.tup [Vn p,Vn m,Vn t])) (G:Good p m t) (W:Whl p m t few root n marks) (hn:n≤63):ResW K H (.ref wh) true:=by
  have kd:∀ {ns:List Nat},∀e∈ns.map Vn,Kd K H e:=fun {ns} e he=>by
    obtain ⟨y,_,rfl⟩:=List.mem_map.mp he
    exact ⟨"int",.inl rfl⟩
  refine .inr (.inr ⟨wh,_,_,_,_,some [Vn p,Vn m,Vn t],some (marks.map Vn),rfl,SqT.of h.w,.inr ⟨fa,_,rfl,SqT.of hf,by show 3≤200;decide,kd (ns:=[p,m,t]),rfl⟩,⟨"int",.inl rfl⟩,⟨"int",.inl rfl⟩,.inr ⟨mk,_,rfl,SqT.of h.k,?_,kd,rfl⟩,?_⟩)
  · rw [List.length_map]
    have:=zbF W.asc W.lt
    lia
  · exact (wB_b ⟨fun _=>⟨p,m,t,few,root,n,marks,rfl,G,rfl,rfl,rfl,W⟩,fun _=>rfl⟩).symm
section
variable {P:Program} {w:World} {mg:Str→Option Value} {base:Heap} {f:Addr} {fd:FuncData}
theorem yb6:yaf ["_law_script","_law_purse_here","_law_table_here","_law_wheel_here","_law_turn","_law_thing","_law_told"] ["_law_script"] (zac zdT):=⟨rfl,rfl,rfl,by decide +kernel,rfl,by decide +kernel,by decide +kernel⟩
theorem zgH (B:Bl mg) (h__law_purse:Has P w K mg base 1 "_law_purse" ["_law_script"] (zdj K)) (h__law_wheel:Has P w K mg base 5 "_law_wheel" ["_law_purse_here","_law_most"] zct) (h_is_wheel:Has P w K mg base 7 "is_wheel" ["thing"] (ybI K)) (h__law_otherwise:Has P w K mg base 3 "_law_otherwise" ["_law_purse_here","_law_table_here","_law_wheel_here"] (ycp K)) (h__law_bent:Has P w K mg base 5 "_law_bent" ["_law_purse_here","_law_thing"] (zc5 K)) (h__law_due:Has P w K mg base 5 "_law_due" ["_law_thing","_law_known"] (yda K)) (F:Fun K "law" "law" zdT f fd):FnOk P w K mg base CX0 8 f fd ["_law_script"] (ycS K):=by
  refine F.ok yb6 (fun vs H Q E h=>?_) (fun cdv A outer s H vs Q E hr h=>?_)
  · obtain ⟨a,ns,rfl,_⟩:=h;rfl
  obtain ⟨a,ns,rfl,ha,q⟩:=h
  refine ⟨_,((1<|>yb6.nd<|>(@zad _ _ _ _ _ _ _ _ _ _ _ h__law_purse hr (by lia) rfl ((pv 0)>=>yaa) (by decide) (by rfl) (by rfl)))<=<((@zad _ _ _ _ _ _ _ _ _ _ _ h__law_wheel hr (by lia) rfl ((pv 1)>=>zaa>=>yaa) (by decide) (by rfl) (by rfl))≈((2&&&yb6.nd)∩((3&&&yb6.nd)∩yaA)))<=<((ygh∪(@zad _ _ _ _ _ _ _ _ _ _ _ h_is_wheel hr (by lia) rfl ((pv 3)>=>yaa) (by decide) (by rfl) (by rfl))∪yaF)*>((~~~(yaF⁻¹)),yae))<=<((↑(zaa>=>yaa))<&>((4&&&yb6.nd),((5<|>yb6.nd<|>(@zad _ _ _ _ _ _ _ _ _ _ _ h__law_otherwise hr (by lia) rfl ((pv 1)>=>(pv 2)>=>(pv 3)>=>yaa) (by decide) (by rfl) (by rfl)))<=<((zaZ∪(yan|||(pv 4)|||zaa)∪zaa)*>((~~~(5<|>yb6.nd<|>(@zad _ _ _ _ _ _ _ _ _ _ _ h__law_bent hr (by lia) rfl ((pv 1)>=>(pv 3)>=>yaa) (by decide) (by rfl) (by rfl)))),yae))<=<(6<|>yb6.nd<|>(@zad _ _ _ _ _ _ _ _ _ _ _ h_is_wheel hr (by lia) rfl ((pv 5)>=>yaa) (by decide) (by rfl) (by rfl)))<=<(~~~((@PW.pt _ _ _ (@yaQ _ _ _ _ _ _ _ (@zau _ _ _ _ (@yar _ _ _ (zcr>>>("isinstance",PyProof.Rows.boot_isinstance,((pv 6)>=>("bool"⊂ybl)>=>yaa))) (by intro _;rfl))) (@yaD _ _ _ _ (zbW∪(pv 6)∪(@zad _ _ _ _ _ _ _ _ _ _ _ h__law_due hr (by lia) rfl ((pv 5)>=>(zao<<<(pv 3)<<<zaa)>=>yaa) (by decide) (by rfl) (by rfl))))))*>((~~~(yaF⁻¹)),yae))))))<=<(~~~((@ybS _ _ _ _ _ _ _ _ zgP (@zad _ _ _ _ _ _ _ _ _ _ _ h_is_wheel hr (by lia) rfl ((pv 3)>=>yaa) (by decide) (by rfl) (by rfl)) yaF (ydA _))⁻¹))),?_⟩
  try dsimp only [cxOf]
  refine ⟨_,rfl,a,ns,rfl,ha,fun pu g H1 n1 n2 s1 hP=>?_⟩
  dsimp only [yat]
  refine ⟨_,rfl,pu,g,63,rfl,hP,by decide,fun r tb fa pa la wh mk p m t b few root n marks H2 er T ap hW nwh nmk nr W hn hP2 sx2=>?_⟩
  refine ⟨r,_,rfl,SqT.of er,rfl,_,_,rfl,_,_,rfl,rfl,?_⟩
  have G:=T.good
  refine ⟨_,rfl,.ref wh,true,rfl,ydw hW T.f G W hn,fun H3 s3=>?_⟩
  have hP3:=hP2.same s3
  have T3:=T.same s3
  have hW3:=hW.same s3
  clear hP hP2 T hW er sx2 s1 s3 ha
  refine ⟨true,true,rfl,rfl,false,rfl,?_⟩
  refine ite2 (fun c=>absurd c (by decide)) (fun _=>?_)
  dsimp only [yaS]
  have hp:=G.hp
  have hm:=G.hm
  have hQ:=G.hq
  have ht:=G.top
  have hp2:=p_le hp hm hQ
  have hm6:=m_le hp hQ
  have hfm:few≤m:=Nat.le_of_dvd (by lia) (Nat.dvd_of_mod_eq_zero W.fewm)
  have hrq:=W.rq
  have nfa:fa≠pu∧fa≠g:=⟨ap.b1,ap.b2⟩
  refine ⟨12,rfl,by decide,by decide,?_⟩
  refine yaB (n:=12) (fun i σ H'=>Pu H' pu g∧zaf pu g H3 H'∧Ex3 fun (v4 v5 v6:Option V)=>σ=[some (.ref a),some (.ref pu),some (.ref tb),some (.ref wh),v4,v5,v6]) ⟨hP3,zaf.refl,_,_,_,rfl⟩ ?_ ?_
  · rintro i σ H4 hi ⟨hP4,sx4,v4,v5,v6,rfl⟩
    dsimp only [yat]
    have T4:=T3.x ap sx4
    have hW4:=hW3.x nwh nmk sx4
    refine ⟨_,rfl,_,rfl,_,rfl,pu,g,tb,fa,pa,la,wh,mk,p,m,t,b,few,root,n,marks,rfl,hP4,T4,ap,hW4,nwh,nmk,W,hn,fun v H5 hv hP5 sx5=>?_⟩
    dsimp only [yat]
    have T5:=T4.x ap sx5
    have hW5:=hW4.x nwh nmk sx5
    have sx5:=sx4.trans sx5
    let I2:St→Hp→Prop:=fun σ H'=>Pu H' pu g∧zaf pu g H3 H'∧Ex3 fun (x:V) (w4 w6:Option V)=>ThW K H' pu g x∧σ=[some (.ref a),some (.ref pu),some (.ref tb),some (.ref wh),w4,some x,w6]
    refine yaR I2 ?_ ?_
    rotate_left
    · intro D' _ _ _ hcut
      refine ⟨_,rfl,_,_,rfl,rfl,by decide,rfl,_,rfl,?_⟩
      refine ite2 (fun _=>?_) (fun _=>?_)
      · refine ⟨_,rfl,_,rfl,pu,g,wh,fa,mk,p,m,t,few,root,marks,rfl,hP5,hW5.w,T5.f,hW5.k,nwh,nfa,nmk,fun x hx=>?_,fun x hx=>?_,?_,fun v' H6 hv' hP6 sx6=>?_⟩
        · simp only [List.mem_cons,List.not_mem_nil,or_false] at hx
          rcases hx with rfl|rfl|rfl|rfl|rfl <;> lia
        · have:=W.lt x hx;lia
        · have:=zbF W.asc W.lt;lia
        · exact hcut _ _ ⟨hP6,sx5.trans sx6,v',_,_,hv',rfl⟩
      · exact hcut _ _ ⟨hP5,sx5,v,_,_,hv,rfl⟩
    clear T4 hW4 T5 hW5 sx4 sx5 hP5 hP4 hv
    rintro σ H6 ⟨hP6,sx6,x,w4,w6,hx,rfl⟩
    obtain ⟨bx,hb⟩:=hx.res
    refine ⟨_,rfl,x,bx,rfl,hb.w,fun H7 s7=>?_⟩
    dsimp only [yat]
    have sx7:=sx6.trans (Same.x s7)
    have T7:=T3.x ap sx7
    have hW7:=hW3.x nwh nmk sx7
    refine ⟨_,rfl,.bl bx,"bool",rfl,.inl rfl,_,rfl,?_⟩
    refine ite2 (fun c=>absurd c (by decide)) (fun _=>?_)
    refine ⟨_,rfl,_,rfl,_,rfl,wh,_,_,.ref fa,rfl,rfl,SqT.of hW7.w,rfl,x,bx,fa,p,m,t,rfl,hb.same s7,T7.f,G,fun H8 s8=>?_⟩
    refine ⟨by cases bx <;> rfl,false,by show V.bl (!decide (V.bl bx=V.bl bx))=_;rw [decide_eq_true rfl];rfl,?_⟩
    refine ite2 (fun c=>absurd c (by decide)) (fun _=>?_)
    exact ⟨(hP6.same s7).same s8,sx7.trans (Same.x s8),_,_,_,rfl⟩
  · rintro σ H4 ⟨hP4,sx4,v4,v5,v6,rfl⟩
    refine ⟨_,rfl,.ref wh,true,rfl,ydw (hW3.x nwh nmk sx4) (T3.x ap sx4).f G W hn,fun H5 s5=>?_⟩
    exact ⟨true,true,rfl,rfl,q _⟩
end
end My
end
section
namespace My
open PySem L2 Dg
theorem yfw {K:PySem.W.Frag} {ns:List Int} (hl:ns.length≤63) (hS:SqL K H a (ns.map V.int)):ycS K [.ref a] H (fun v _=>v = .bl true) E:=⟨a,ns,rfl,hS,fun _=>rfl⟩
theorem DI.mk {K:PySem.W.Frag} {x:Str} {st:Stmt} {f:Addr} {oc:Value} {od an:Option Addr} {osl:Array (Option Value)} {kV doc pm cdv ct:Value} (a:PySem.W.nsIn K mainGlobals x=some (some (.ref f))) (l:K.lookup f=some ⟨oc,od,.func (PySem.W.fnOf x x (ybF st) (zbu st) (zac st) .none kV doc pm an cdv ct),osl⟩) (c:PySem.W.codeIn K cdv x=true) (k:PySem.W.keepIn K (.ref f)=true):DI K f x st:=⟨_,yf0 (st:=st) l c k,a⟩
theorem DI.has {P:Program} {w:World} {K:PySem.W.Frag} {mg:Str→Option Value} {base h:Heap} {f:Addr} {x:Str} {st:Stmt} {n:Nat} {ps:List Str} {sp:Sp} (X:K.In h) (G:h.Ns mainGlobals mg) (q:DI K f x st) (ok:∀fd,Fun K x x st f fd→FnOk P w K mg base CX0 n f fd ps sp) (b:∀(kV doc pm:Value) (an:Option Addr) (cdv ct:Value) (us:List Value),us.length=ps.length→bindArgs (PySem.W.fnOf x x (ybF st) (zbu st) (zac st) .none kV doc pm an cdv ct) ⟨us,[]⟩=pure (ps.zip us)):Has P w K mg base n x ps sp:=by
  obtain ⟨fd,F,a⟩:=q
  exact ⟨f,fd,ok fd F,F.binds b,F.2,PySem.W.mg_of X G a⟩
theorem bl0 {P:List Value→Prop} (h:P []):∀us:List Value,us.length=0→P us:=by intro us e;cases us with|nil=>exact h|cons a us=>cases e
theorem blS {n:Nat} {P:List Value→Prop} (h:∀a,∀us:List Value,us.length=n→P (a::us)):∀us:List Value,us.length=n+1→P us:=by intro us e;cases us with|nil=>cases e|cons a us=>exact h a us (Nat.succ.inj e)
theorem zca {P:List Value→Prop} (h:∀a0,P [a0]):∀us:List Value,us.length=1→P us:=blS fun a0=>bl0 (h a0)
theorem zbl {P:List Value→Prop} (h:∀a0 a1,P [a0,a1]):∀us:List Value,us.length=2→P us:=blS fun a0=>blS fun a1=>bl0 (h a0 a1)
theorem ycF {P:List Value→Prop} (h:∀a0 a1 a2,P [a0,a1,a2]):∀us:List Value,us.length=3→P us:=blS fun a0=>blS fun a1=>blS fun a2=>bl0 (h a0 a1 a2)
theorem ygA:GG K:=by
  intro l w h mg fa X G hfa f1 q1 f2 q2 f3 q3 f4 q4 f5 q5 f6 q6 f7 q7 f8 q8 f9 q9 f10 q10 f11 q11 f12 q12 f13 q13 f14 q14 f15 q15 f16 q16 f17 q17 f18 q18 f19 q19 f20 q20 f21 q21 f22 q22 f23 q23 f24 q24 f25 q25 f26 q26 f27 q27 f28 q28 f29 q29 f30 q30 f31 q31 f32 q32 f33 q33 f34 q34 f35 q35 f36 q36 f37 q37 f38 q38 tk_MOST_THINGS kk_MOST_THINGS z1 z2 z3 z4 z5 z6 z7 z8 z9 z10 z11 z12 z13 z14 z15 z16 z17 z18 z19 z20 z21
  obtain ⟨_,⟨⟨oc,od,kV,dc,pm,an,cd,ct,sl,rfl,lL,cL⟩,kL⟩,aL⟩:=q38
  have e:=hfa.symm.trans (PySem.W.mg_of X G aL)
  cases e
  have F38:=yf0 (st:=zdT) lL cL kL
  have B:Bl mg:=List.forall_mem_cons.mpr ⟨PySem.W.mg_none_of X G z1,List.forall_mem_cons.mpr ⟨PySem.W.mg_none_of X G z2,List.forall_mem_cons.mpr ⟨PySem.W.mg_none_of X G z3,List.forall_mem_cons.mpr ⟨PySem.W.mg_none_of X G z4,List.forall_mem_cons.mpr ⟨PySem.W.mg_none_of X G z5,List.forall_mem_cons.mpr ⟨PySem.W.mg_none_of X G z6,List.forall_mem_cons.mpr ⟨PySem.W.mg_none_of X G z7,List.forall_mem_cons.mpr ⟨PySem.W.mg_none_of X G z8,List.forall_mem_cons.mpr ⟨PySem.W.mg_none_of X G z9,List.forall_mem_cons.mpr ⟨PySem.W.mg_none_of X G z10,List.forall_mem_cons.mpr ⟨PySem.W.mg_none_of X G z11,List.forall_mem_cons.mpr ⟨PySem.W.mg_none_of X G z12,List.forall_mem_cons.mpr ⟨PySem.W.mg_none_of X G z13,List.forall_mem_cons.mpr ⟨PySem.W.mg_none_of X G z14,List.forall_mem_cons.mpr ⟨PySem.W.mg_none_of X G z15,List.forall_mem_cons.mpr ⟨PySem.W.mg_none_of X G z16,List.forall_mem_cons.mpr ⟨PySem.W.mg_none_of X G z17,List.forall_mem_cons.mpr ⟨PySem.W.mg_none_of X G z18,List.forall_mem_cons.mpr ⟨PySem.W.mg_none_of X G z19,List.forall_mem_cons.mpr ⟨PySem.W.mg_none_of X G z20,List.forall_mem_cons.mpr ⟨PySem.W.mg_none_of X G z21,(fun _ h=>nomatch h)⟩⟩⟩⟩⟩⟩⟩⟩⟩⟩⟩⟩⟩⟩⟩⟩⟩⟩⟩⟩⟩
  have m_MOST_THINGS:=PySem.W.mg_of X G kk_MOST_THINGS
  refine ⟨PySem.W.fnOf "law" "law" (ybF zdT) (zbu zdT) (zac zdT) .none kV dc pm an cd ct,fun s v=>.of_eq rfl,fun base _ _=>?_⟩
  have M:=fun {f x st n ps sp}=>@DI.has l.prog w K mg base h f x st n ps sp X G
  have h_is_whole:=M q1 (fun _ F=>zgT B  F) (fun _ _ _ _ _ _=>zca fun _=>rfl)
  have h_is_wholes:=M q2 (fun _ F=>ye2 B h_is_whole F) (fun _ _ _ _ _ _=>zbl fun _ _=>rfl)
  have h_number_power:=M q3 (fun _ F=>yci B  F) (fun _ _ _ _ _ _=>zbl fun _ _=>rfl)
  have h_is_prime:=M q4 (fun _ F=>yfi B  F) (fun _ _ _ _ _ _=>zca fun _=>rfl)
  have h_many_things:=M q5 (fun _ F=>zfU B h_number_power F) (fun _ _ _ _ _ _=>zca fun _=>rfl)
  have h_plus:=M q6 (fun _ F=>ygt B  F) (fun _ _ _ _ _ _=>ycF fun _ _ _=>rfl)
  have h_digit_times:=M q7 (fun _ F=>ycE B  F) (fun _ _ _ _ _ _=>ycF fun _ _ _=>rfl)
  have h_lifted:=M q8 (fun _ F=>yfm B h_plus h_digit_times h_number_power F) (fun _ _ _ _ _ _=>zbl fun _ _=>rfl)
  have h_times:=M q9 (fun _ F=>zfv B h_plus h_digit_times h_lifted F) (fun _ _ _ _ _ _=>ycF fun _ _ _=>rfl)
  have h_times_itself:=M q10 (fun _ F=>yep B h_times F) (fun _ _ _ _ _ _=>ycF fun _ _ _=>rfl)
  have h_round_of:=M q11 (fun _ F=>yfQ B h_times F) (fun _ _ _ _ _ _=>zbl fun _ _=>rfl)
  have h_all_come_to_one:=M q12 (fun _ F=>zeA B h_many_things h_times_itself F) (fun _ _ _ _ _ _=>zca fun _=>rfl)
  have h_is_field:=M q13 (fun _ F=>zdP m_MOST_THINGS B h_is_wholes h_is_prime h_many_things h_all_come_to_one F) (fun _ _ _ _ _ _=>zca fun _=>rfl)
  have h_length:=M q14 (fun _ F=>yfe B h_round_of F) (fun _ _ _ _ _ _=>zca fun _=>rfl)
  have h_is_rising:=M q15 (fun _ F=>yev B h_is_whole F) (fun _ _ _ _ _ _=>zbl fun _ _=>rfl)
  have h_is_wheel:=M q16 (fun _ F=>zd0 B h_is_field h_is_whole h_many_things h_length h_number_power h_is_rising F) (fun _ _ _ _ _ _=>zca fun _=>rfl)
  have h__law_purse:=M q17 (fun _ F=>yfy B  F) (fun _ _ _ _ _ _=>zca fun _=>rfl)
  have h__law_pick:=M q18 (fun _ F=>ygy B  F) (fun _ _ _ _ _ _=>zbl fun _ _=>rfl)
  have h__law_raised:=M q19 (fun _ F=>yeE B  F) (fun _ _ _ _ _ _=>zbl fun _ _=>rfl)
  have h__law_digits:=M q20 (fun _ F=>zfn B  F) (fun _ _ _ _ _ _=>zbl fun _ _=>rfl)
  have h__law_number:=M q21 (fun _ F=>yfs B  F) (fun _ _ _ _ _ _=>zbl fun _ _=>rfl)
  have h__law_product:=M q22 (fun _ F=>zes B h__law_digits h__law_number F) (fun _ _ _ _ _ _=>ycF fun _ _ _=>rfl)
  have h__law_is_good:=M q23 (fun _ F=>yfC B h__law_raised h__law_product F) (fun _ _ _ _ _ _=>zca fun _=>rfl)
  have h__law_field:=M q24 (fun _ F=>yfM B h__law_pick h__law_raised (zhd h__law_is_good) F) (fun _ _ _ _ _ _=>zca fun _=>rfl)
  have h__law_table:=M q25 (fun _ F=>yfR B h__law_raised h__law_product F) (fun _ _ _ _ _ _=>zca fun _=>rfl)
  have h__law_times:=M q26 (fun _ F=>yeX B  F) (fun _ _ _ _ _ _=>ycF fun _ _ _=>rfl)
  have h__law_round:=M q27 (fun _ F=>yfc B h__law_times F) (fun _ _ _ _ _ _=>zbl fun _ _=>rfl)
  have h__law_ring:=M q28 (fun _ F=>yfU B  F) (fun _ _ _ _ _ _=>ycF fun _ _ _=>rfl)
  have h__law_wheel:=M q29 (fun _ F=>zfc B h__law_pick h__law_field h__law_table h__law_raised h__law_round h__law_ring F) (fun _ _ _ _ _ _=>zbl fun _ _=>rfl)
  have h__law_roots:=M q30 (fun _ F=>zfs B h__law_times F) (fun _ _ _ _ _ _=>zbl fun _ _=>rfl)
  have h__law_whole:=M q31 (fun _ F=>zeW B  F) (fun _ _ _ _ _ _=>ycF fun _ _ _=>rfl)
  have h__law_odd:=M q32 (fun _ F=>zgR B h__law_pick F) (fun _ _ _ _ _ _=>zbl fun _ _=>rfl)
  have h__law_bent2:Has l.prog w K mg base 2 "_law_bent" ["_law_purse_here","_law_thing"] (fun _ _ _ _=>False):=M q33 (fun _ _=>ygj) (fun _ _ _ _ _ _=>zbl fun _ _=>rfl)
  have h__law_bent3:=M q33 (fun _ F=>yeh B h__law_bent2 h__law_pick h__law_odd F) (fun _ _ _ _ _ _=>zbl fun _ _=>rfl)
  have h__law_bent4:=M q33 (fun _ F=>zeO B h__law_bent3 h__law_bent2 h__law_pick h__law_odd F) (fun _ _ _ _ _ _=>zbl fun _ _=>rfl)
  have h__law_bent5:=M q33 (fun _ F=>zfC B h__law_bent4 h__law_pick h__law_odd F) (fun _ _ _ _ _ _=>zbl fun _ _=>rfl)
  have h__law_is_field:=M q34 (fun _ F=>ydQ B h__law_whole h__law_raised h__law_is_good F) (fun _ _ _ _ _ _=>zca fun _=>rfl)
  have h__law_due:=M q35 (fun _ F=>yfB B h__law_whole h__law_raised h__law_is_field h__law_table h__law_roots F) (fun _ _ _ _ _ _=>zbl fun _ _=>rfl)
  have h__law_marks:=M q36 (fun _ F=>ye7 B h__law_pick F) (fun _ _ _ _ _ _=>ycF fun _ _ _=>rfl)
  have h__law_otherwise:=M q37 (fun _ F=>yfq B h__law_pick h__law_roots h__law_marks F) (fun _ _ _ _ _ _=>ycF fun _ _ _=>rfl)
  exact zgH (P:=l.prog) (w:=w) (base:=base) B h__law_purse h__law_wheel h_is_wheel h__law_otherwise h__law_bent5 h__law_due F38
theorem all_mk (K:PySem.W.Frag):GG K:=K_of ygA K
theorem walk {l:PySem.W.OpenLaw} {XP:(Str→Option Value)→Heap→Prop} {YP:World→Heap→Prop} {d:DefRec} {K:Params→PySem.W.Frag} (hn:l.most=some 63) (hdf:d.params.defaults=[])
    (hY:∀(w:World) (h:Heap),YP w h→(K w.params).In h)
    (F:∀(w:World) (mg:Str→Option Value) (fa:Addr) (h:Heap),(K w.params).In h→h.Ns mainGlobals mg→mg d.name=some (.ref fa)→
      ∃fd:FuncData,(∀(s:Shared) (u:Value),BindsTo s fd ⟨[u],[]⟩ [("_law_script",u)])∧∀base:Heap,(K w.params).In base→base.Ns mainGlobals mg→FnOk l.prog w (K w.params) mg base CX0 8 fa fd ["_law_script"] (ycS (K w.params))) :
    PySem.W.WalkO q loose XP YP l.row.toRowW d [] (fun f vs=>PySem.call f vs) :=
  L2.walk_of (n:=63) (k:=8) (x:="_law_script") (CX:=fun _=>CX0) (sp:=fun w=>ycS (K w.params)) hn (by decide) hdf ⟨rfl,by decide,by decide,rfl⟩ hY F (fun _ _ a ns hl _ hS=>yfw hl hS) fun _ _ _ _ _ z=>z
end My
namespace PySem.W.Fast
def tw5497818561252040814:=0
def tw829409710602410064:=0
def tw14746229646324974437:=0
def tw12364053350316406061:=0
def tw2319418413449483115:=0
def tw15396687694122586423:=0
def tw6359435407876331901:=0
def tw1071270682170974614:=0
def tw13092700054497273066:=0
def tw7178284548725811676:=0
def tw2076097447028855729:=0
def tw12367462516631469271:=0
def tw13593425148048828500:=0
def tw10965216003039149362:=0
def tw14314352313320008354:=0
def tw3444846890647375732:=0
def tw12413083755042471912:=0
def tw562320432097018086:=0
def tw13871434566403615395:=0
def tw16979433089944544361:=0
def tw8973075692120885592:=0
def tw4629288746443754848:=0
def tw11903006640079000305:=0
def tw15709857006517270613:=0
def tw5124934514315789227:=0
def tw14410540595019046046:=0
def tw12201353731134945028:=0
def tw11694543503246326297:=0
def tw12772167377064023249:=0
def tw4444219453108734525:=0
def tw11008729302167886828:=0
def tw13495570190406583505:=0
def tw2248912607049654249:=0
def tw11508278366102354152:=0
def tw18158512793198899201:=0
def tw1191707724388269034:=0
def tw11803541889477059926:=0
def tw14365910474099347100:=0
def tw10072040201107790568:=0
def tw1058484750764772281:=0
def tw831869598660538283:=0
def tw7361691087904802285:=0
def tw14763232676707113624:=0
def tw12506586573761666997:=0
def tw10138050223953915368:=0
def tw5215826885419442106:=0
def tw18307065132402204856:=0
def tw18026010882567603919:=0
def tw7173472063647270593:=0
def tw15715321637687957675:=0
def tw7244094812392095549:=0
def tw9061216257351048844:=0
def tw2285252734105150865:=0
def tw11395474117517870785:=0
def tw14711855314523140865:=0
def tw9107412691789962639:=0
def tw16782737550538019097:=0
def tw7656063738797731154:=0
def tw3663016163088383166:=0
def tw16064870452969968462:=0
def tw10094900452779946118:=0
def tw860435928469707084:=0
def tw5611357780334617290:=0
def tw15035825239790738584:=0
def tw10924390698498184338:=0
def tw6116634916398674054:=0
def tw12970644528232229006:=0
def tw9793393382673760783:=0
def tw12585317881016701867:=0
def tw14020811676040782518:=0
def tw1086343458372615144:=0
def tw10257580059795285846:=0
def tw16920262161572638683:=0
def tw17555080597350922532:=0
def tw13130332455264808203:=0
def tw768890075281504298:=0
def tw13808356003267479496:=0
def tw7618379540120121827:=0
def tw7649019760741942418:=0
def tw15524014700472173193:=0
def tw9820381904759154794:=0
def tw10407333357767210981:=0
def tw6459613584879099317:=0
def tw1602741448085469574:=0
def tw5016733791139020938:=0
def tw13879586244752622704:=0
def tw17966693417586175154:=0
def tw669102352172871711:=0
def tw2874930903646982308:=0
def tw7930236695864442381:=0
def tw7174594084119998944:=0
def tw5960639783845080950:=0
def tw3492582075490503820:=0
def tw18405516906655138481:=0
def tw17243697341362079967:=0
def tw17566380306626983881:=0
def tw13573850588356647965:=0
def tw5920438035165546959:=0
def tw6832167638560134725:=0
def tw11854741197365555363:=0
def tw3303994418261703491:=0
def tw3836826456184226372:=0
def tw8625415705620480817:=0
def tw13732134321089471224:=0
def tw150731817046982409:=0
def tw7318741825623408027:=0
def tw12782767049162121087:=0
def tw15483456563133168698:=0
def tw2333818436105219495:=0
def tw16715306631861985063:=0
def tw8375990535166526561:=0
def tw13044843850474743936:=0
def tw3382661745673620628:=0
def tw16797472649381103194:=0
def tw2031321525531470944:=0
def tw10989594298626509807:=0
def tw7975078009137851509:=0
def tw15359324387712779601:=0
def tw15019943105768077244:=0
def tw5689440546567252094:=0
def tw4309950212771254585:=0
def tw10088791919756690877:=0
def tw7379112362424595082:=0
def tw18242820306662120736:=0
def tw5739291852046679957:=0
def tw11802927006093273161:=0
def tw13389320907078780028:=0
def tw339993022700491274:=0
def tw6698629980933116834:=0
def tw12852892577555290305:=0
def tw15959992742994721727:=0
def tw17970799836870510408:=0
def tw16735260460130663827:=0
def tw8264176857939994307:=0
def tw15361141364466637259:=0
def tw12291229613783719961:=0
def tw16074565600584615961:=0
def tw9629142403141981321:=0
def tw17625992009890509221:=0
def tw6519925603885149371:=0
def tw1018910283676579554:=0
def tw12367934616683053095:=0
def tw12920452734373446497:=0
def tw5103042338609675781:=0
def tw7440607897819688252:=0
def tw1933849439317401929:=0
def tw3602299140277368975:=0
def tw15872423331881356065:=0
def tw625033057519453201:=0
def tw7491809716371031692:=0
def tw17796732989272154423:=0
def tw16732395544906214980:=0
def tw8300835377792140316:=0
def tw14481875841313659728:=0
def tw5967005169016139967:=0
def tw6194287567080915572:=0
def tw11719170369562651742:=0
def tw3047409779233514450:=0
def tw5327902668363570110:=0
def tw15832697859377425631:=0
def tw1476838335313817786:=0
def tw8003145462229680760:=0
def tw6831079243739186069:=0
def tw14444361850174236277:=0
def tw2214893163629672653:=0
def tw8011447786600805663:=0
def tw10888568290451328651:=0
def tw4937122704333614093:=0
def tw2627483064197301056:=0
def tw2169144086015254558:=0
def tw2397742264587536785:=0
def tw11203150367698737744:=0
def tw4592030001314810729:=0
def tw2143429775263959611:=0
def tw5180268851547843019:=0
def tw6841876353203023627:=0
def tw6141269201227072397:=0
def tw11099796269070896615:=0
def tw2188734716342555164:=0
def tw10942336454841394794:=0
def tw17384539634079139000:=0
def tw8084004414900063758:=0
def tw17331578092232091521:=0
def tw2789426353650330469:=0
def tw4250014394114689858:=0
def tw11126484040278069721:=0
def tw10152763624565013404:=0
def tw513935667094550344:=0
def tw4763343195492145253:=0
def tw12512021031900455148:=0
def tw8042173470451690499:=0
def tw15621585367154753092:=0
def tw14242686015920927723:=0
def tw2636623711611912271:=0
def tw12989991805369360662:=0
def tw11895716569825485359:=0
def tw14025130537599407171:=0
def tw10362400607838622098:=0
def tw10683117574615675420:=0
def tw16520556607278959896:=0
def tw16098736412144559051:=0
def tw16580091944059643996:=0
def tw18234689965900445040:=0
def tw792496910731278197:=0
def tw1965853400980167514:=0
def tw4668694276847702889:=0
def tw9389349940889763441:=0
def tw18388672349880305492:=0
def tw16374123196939520742:=0
def tw8077671758366555910:=0
def tw3245524010865418526:=0
def tw11943632863794168393:=0
def tw7601410035912312436:=0
def tw17091952387133448475:=0
def tw2553085028677443452:=0
def tw10982599476628952655:=0
def tw11584967407890876502:=0
def tw11613922429398915659:=0
def tw16561686248785494034:=0
def tw3398248523813255464:=0
def tw17787021536774408644:=0
def tw7027342836888671063:=0
def tw1764390483995394734:=0
def tw13136568076975462608:=0
def tw15716676883246673719:=0
def tw14536114848119368789:=0
def tw12102333009406630159:=0
def tw17653560721279136416:=0
def tw6895686152148568546:=0
def tw14290553537402862243:=0
def tw14400190071023627503:=0
def tw7589111049376719055:=0
def tw16309723312169098471:=0
def tw13918478704944722921:=0
def tw4604075951424638927:=0
end PySem.W.Fast
open PySem PySem.W PyProof.Rows
set_option maxRecDepth 100000 in
set_option maxHeartbeats 0 in
theorem PySem.Challenge.cw_roundwords_k14_wheels_or_none_holds : PySem.Challenge.rw_roundwords_k14_wheels_or_none.Holds := by
  w_on;refine holds_law zgJ fun said=>?_;k_head;(case hw=>w_witness2)
  k_fill
  refine My.walk (l:=PySem.Challenge.rw_roundwords_k14_wheels_or_none) rfl rfl (fun w h Y=>PySem.W.kIn_of Y) ?F
  case F =>
    intro w mg fa h KX G hmg
    apply My.all_mk _ KX G hmg
    all_goals first|(apply My.DI.mk <;> k_is)|k_is
#print axioms PySem.Challenge.cw_roundwords_k14_wheels_or_none_holds
end
