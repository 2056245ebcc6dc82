import PyProof.Rows.All
import Wide.All
import OpenK.AllK
import Wide.FinOn
import Lean
import PyProof.EqAt
import PyProof.EqKinds
import PyProof.TupleCall
import KE.KUnpack
import PyProof.ListRange
import PyProof.TupleOfGen
import PyProof.NeKinds
import KE.KRevIter
import PyProof.FactsAll.range_2
import KE.KTryMore
import PyProof.IsRules
import PyProof.IsInstanceH
import PyProof.ReprRoads
import PyProof.CallStr
import KE.KSortTup
import PyProof.SumWalkG
import PyProof.WalksMore
import PySem.Challenge.RW_roundwords_k58_facing_counts
set_option hygiene false in
local macro_rules | `($a>=>$b) => `(@zc2 _ _ _ _ _ $a $b (by rfl))
set_option hygiene false in
local macro_rules | `($a<=<$b) => `(@yfZ _ _ _ _ _ $a $b)
set_option hygiene false in
local macro_rules | `(~~~$a) => `(@ygk _ _ _ $a)
set_option hygiene false in
local macro_rules | `($a<$>$b) => `(@yfA _ _ _ _ _ _ _ _ _ _ _ $a hr (by decide) rfl $b (by decide) (by rfl) (by rfl))
set_option hygiene false in
local macro_rules | `($a|||$b|||$c) => `(@zhn _ _ _ _ _ _ _ _ $a $b $c)
set_option hygiene false in
local macro_rules | `($a&&&$b) => `(@yeP _ _ $a _ $b rfl (by first | exact .inl rfl | exact .inr rfl | assumption) (by first | exact .inl rfl | exact .inr rfl | assumption))
set_option hygiene false in
local macro_rules | `($a<|>$b<|>$c) => `(@yg8 _ _ $a _ _ _ _ $b rfl (by first | exact .inl rfl | exact .inr rfl | assumption) $c (by rfl) (by first | exact .inl rfl | exact .inr rfl | assumption))
set_option hygiene false in
local macro_rules | `($a<<<$b<<<$c) => `(@zhu _ _ _ _ _ _ _ $a $b $c (fun _ _ => rfl))
set_option hygiene false in
local macro_rules | `($a⁻¹) => `(@ygY _ _ _ _ $a)
set_option hygiene false in
local macro_rules | `($a∩$b) => `(@yfL _ _ _ _ _ $a $b (by rfl))
set_option hygiene false in
local macro_rules | `($a∪$b∪$c) => `(@ydH _ _ _ _ _ _ _ _ $a $b $c (yds _))
set_option hygiene false in
local macro_rules | `($a>>>($s, $c, $d)) => `(@zfD _ _ _ _ _ _ _ _ _ $a rfl (B $s (by decide)) $c $d (by decide) (by decide) (by rfl) (by rfl))
set_option hygiene false in
local macro_rules | `($a<*($s, $c, $d)) => `(@yfi _ _ _ _ _ _ _ _ _ $a rfl (B $s (by decide)) $c $d (by decide) (by decide) (by rfl) (by rfl))
set_option hygiene false in
local macro_rules | `($a*>($b, $c)) => `(@yhj _ _ _ _ _ _ _ _ $a $b $c)
set_option hygiene false in
local macro_rules | `($a<&>($b, $c)) => `(@yha _ _ _ _ _ _ _ _ PassesOwn.never rfl $a $b $c (by intro _; rfl))
set_option hygiene false in
local macro_rules | `($a≈$b) => `(@zco _ _ _ _ _ _ $a (@zck _ _ _ _ _ _ rfl $b (by rfl) (by rfl)) (by rfl) (by rfl) (by rfl))
set_option hygiene false in
local macro_rules | `($a⊃$b) => `(@zgL _ _ _ _ _ _ (yhu hr) $a $b (fun _ _ => rfl))
set_option hygiene false in
local macro_rules | `(↑$a) => `(@zfw _ _ _ _ _ _ rfl (B "range" (by decide)) $a (by rfl))
set_option hygiene false in
local macro_rules | `($a⊆($b, $c, $d, $e, $f, $g, $h, $i)) => `(@zfL _ _ _ _ _ _ _ $a $b $c _ _ _ _ (id (α := CSc $d (yac $e) $a $b $c _) ⟨by rfl, by decide +kernel, by decide +kernel, by decide +kernel, by decide +kernel, by rfl, by decide +kernel⟩) rfl $f (fun cl C fp s H => $g) (fun _ _ _ _ _ => $h) (fun _ _ _ _ _ => $i) (by intro _; rfl))
set_option hygiene false in
local macro_rules | `($a⊇$b) => `(@yeP _ _ $a _ (by show List.Nodup ($b : List Str); decide +kernel) rfl (by first | exact .inl rfl | exact .inr rfl | assumption) (by first | exact .inl rfl | exact .inr rfl | assumption))
theorem zgX:PySem.Challenge.rw_roundwords_k58_facing_counts.wellSaid=true:=by decide +kernel
section
-- text: PpList
set_option Elab.async false
set_option linter.all false
set_option maxRecDepth 100000
namespace L2
open PySem PySem.Spec PyProof.Rows
noncomputable abbrev Key:=Sum Int Str
noncomputable def zeA:Key→Value→Bool
  | .inl k,v=>Value.isInt k v
  | .inr x,v=>Value.isStrOf x v
noncomputable def keyH (w:World):Key→Int
  | .inl k=>hashInt k
  | .inr x=>hashStr w x
theorem yav:∀ {k:Key} {v:Value},zeA k v=true→(∃i t,k=Sum.inl i∧v=Value.int i t)∨(∃x t,k=Sum.inr x∧v=Value.str x t)
  | .inl i,v,h=>by
    obtain ⟨t,e⟩:=Value.isInt_shape (k:=i) (v:=v) h
    exact .inl ⟨i,t,rfl,e⟩
  | .inr x,v,h=>by
    obtain ⟨t,e⟩:=Value.isStrOf_shape (x:=x) (v:=v) h
    exact .inr ⟨x,t,rfl,e⟩
theorem zeR (i:Int) (t:Tok):zeA (.inl i) (.int i t)=true:=by simp [zeA,Value.isInt]
theorem ze8 (x:Str) (t:Tok):zeA (.inr x) (.str x t)=true:=by simp [zeA,Value.isStrOf]
theorem zhd (a b:Int):decide ((Sum.inl a:Key)=Sum.inl b)=(a==b):=by
  by_cases e:a=b
  · subst e;simp
  · have h:¬ (Sum.inl a:Key)=Sum.inl b:=fun q=>e (Sum.inl.inj q)
    rw [decide_eq_false h]
    exact (beq_eq_false_iff_ne.mpr e).symm
theorem zhe (a b:Str):decide ((Sum.inr a:Key)=Sum.inr b)=decide (a=b):=by
  by_cases e:a=b
  · subst e;simp
  · have h:¬ (Sum.inr a:Key)=Sum.inr b:=fun q=>e (Sum.inr.inj q)
    rw [decide_eq_false h,decide_eq_false e]
theorem ygW (a:Int) (b:Str):decide ((Sum.inl a:Key)=Sum.inr b)=false:=decide_eq_false (fun q=>nomatch q)
theorem ygV (a:Str) (b:Int):decide ((Sum.inr a:Key)=Sum.inl b)=false:=decide_eq_false (fun q=>nomatch q)
noncomputable def zaz (prog:Program) (w:World):PySem.KeyKind prog w Key where
  is:=zeA
  hash:=keyH w
  inj:=fun v a b ha hb=>by
    rcases yav ha with ⟨i,t,rfl,rfl⟩ | ⟨x,t,rfl,rfl⟩
    · rcases yav hb with ⟨j,u,rfl,e⟩ | ⟨y,u,rfl,e⟩
      · injection e with e1 _;rw [e1]
      · exact nomatch e
    · rcases yav hb with ⟨j,u,rfl,e⟩ | ⟨y,u,rfl,e⟩
      · exact nomatch e
      · injection e with e1 _;rw [e1]
  byValue:=fun k v h=>by
    rcases yav h with ⟨i,t,rfl,rfl⟩ | ⟨x,t,rfl,rfl⟩ <;> rfl
  pyHash:=fun hv h=>by
    rcases yav hv with ⟨i,t,rfl,rfl⟩ | ⟨x,t,rfl,rfl⟩
    · exact wpAny_pyHash_int h
    · exact wpAny_pyHash_str h
  eqBool:=fun hu hv h=>by
    rcases yav hu with ⟨i,t,rfl,rfl⟩ | ⟨x,t,rfl,rfl⟩
    · rcases yav hv with ⟨j,u,rfl,rfl⟩ | ⟨y,u,rfl,rfl⟩
      · rw [zhd] at h;exact wpAny_eqBool_int h
      · rw [ygW] at h;exact SeqAt.EqAt.int_str i t y u _ _ _ _ h
    · rcases yav hv with ⟨j,u,rfl,rfl⟩ | ⟨y,u,rfl,rfl⟩
      · rw [ygV] at h;exact SeqAt.EqAt.str_int x t j u _ _ _ _ h
      · rw [zhe] at h;exact wpAny_eqBool_str h
  «strs»:=fun k x t v h=>by
    rcases yav h with ⟨i,u,rfl,e⟩ | ⟨y,u,rfl,e⟩
    · exact nomatch e
    · injection e with e1 _
      subst e1
      cases v <;> rfl
theorem zd0 (prog:Program) (w:World) (i:Int) (t:Tok):(zaz prog w).is (.inl i) (.int i t)=true:=zeR i t
theorem ydN (prog:Program) (w:World) (x:Str) (t:Tok):(zaz prog w).is (.inr x) (.str x t)=true:=ze8 x t
end L2
namespace L2
open PySem PySem.Spec PyProof.Rows
inductive V where
  | non|bl (b:Bool)|int (i:Int)|str (x:Str)|byt (b:Array UInt8)|flt (b:UInt64)|ref (a:Addr)|ty (n:String)
  deriving DecidableEq
noncomputable def RelV:V→Value→Prop
  | .non,u=>u=Value.none
  | .bl b,u=>u=Value.bool b
  | .int i,u=>∃t,u=Value.int i t
  | .str x,u=>∃t,u=Value.str x t
  | .byt b,u=>∃t,u=Value.bytes b t
  | .flt b,u=>∃t,u=Value.float b t
  | .ref a,u=>u=Value.ref a
  | .ty n,u=>u=Value.type n
noncomputable abbrev Vals:List V→List Value→Prop:=Paired RelV
theorem Vals.length {xs:List V} {us:List Value} (r:Vals xs us):xs.length=us.length:=Paired.length r
theorem Vals.get:∀ {xs:List V} {us:List Value} {i:Nat} {x:V},Vals xs us→xs[i]?=some x→∃u,us[i]?=some u∧RelV x u
  | _,_,_,_,.nil,e=>by simp at e
  | _,_,0,_,.cons r _,e=>by simp at e;subst e;exact ⟨_,rfl,r⟩
  | _,_,i+1,x,.cons _ t,e=>by
    obtain ⟨u,h1,h2⟩:=Vals.get (i:=i) (x:=x) t (by simpa using e)
    exact ⟨u,by simpa using h1,h2⟩
theorem Vals.set {x:V} {u:Value} (r:RelV x u):∀ {xs:List V} {us:List Value} (i:Nat),Vals xs us→Vals (xs.set i x) (us.set i u)
  | _,_,_,.nil=>.nil
  | _,_,0,.cons _ t=>.cons r t
  | _,_,i+1,.cons q t=>.cons q (Vals.set r i t)
theorem Vals.append:∀ {xs ys:List V} {us ws:List Value},Vals xs us→Vals ys ws→Vals (xs++ys) (us++ws)
  | _,_,_,_,.nil,s=>s
  | _,_,_,_,.cons r t,s=>.cons r (Vals.append t s)
theorem Vals.take:∀ {xs:List V} {us:List Value} (n:Nat),Vals xs us→Vals (xs.take n) (us.take n)
  | _,_,0,_=>.nil
  | _,_,_+1,.nil=>.nil
  | _,_,n+1,.cons r t=>.cons r (Vals.take n t)
theorem Vals.drop:∀ {xs:List V} {us:List Value} (n:Nat),Vals xs us→Vals (xs.drop n) (us.drop n)
  | _,_,0,r=>r
  | _,_,_+1,.nil=>.nil
  | _,_,n+1,.cons _ t=>Vals.drop n t
noncomputable def RelO:Option V→Option Value→Prop
  | some v,some u=>RelV v u
  | none,none=>True
  | _,_=>False
noncomputable def KV {κ:Type}:List (κ×V)→List (κ×Value)→Prop:=Paired fun (p:κ×V) (q:κ×Value)=>p.1=q.1∧RelV p.2 q.2
noncomputable def kV:Key→V
  | .inl i=>.int i
  | .inr x=>.str x
inductive HO where
  | lst (xs:List V)
  | tup (xs:List V)
  | dK (kvs:List (Key×V))|dT (kvs:List (List Key×V))
  | set (S:Int→Bool) (n:Nat)
  | ins (C dx:Addr) (fs:List (Str×V))
  | own (x:Addr)
  | xd (fs:List (Str×V))
  | met (f x:Addr)
  | rng (lo hi:Int)
  | frz (o:Obj) (u:HO)
  | tbl (ps:Array Value)
  | ext (φ:Heap→Prop)
noncomputable abbrev Hp:=Addr→Option HO
noncomputable def upd (H:Hp) (a:Addr) (o:HO):Hp:=fun b=>if b=a then some o else H b
theorem zaa {H:Hp} {a:Addr} {o:HO}:upd H a o a=some o:=by unfold upd;rw [if_pos rfl]
theorem zad {H:Hp} {a b:Addr} {o:HO} (h:b≠a):upd H a o b=H b:=by unfold upd;rw [if_neg h]
theorem zd4 {H:Hp} {a:Addr} {o u:HO}:upd (upd H a o) a u=upd H a u:=by
  funext b;unfold upd;split <;> rfl
theorem zac {H:Hp} {a b:Addr} {o:HO} (h:H a=some o) (h':H b=none):a≠b:=by
  intro e;subst e;rw [h] at h';cases h'
section
variable (P:Program) (w:World)
noncomputable def zaX (H:Hp) (h:Heap) (a:Addr):HO→Prop
  | .lst xs=>xs.length≤sizeLine∧∃(its:List Value) (n:Nat),Vals xs its∧h.get? a=some { cls:=.type "list",data:=.seq its.toArray n }
  | .tup xs=>xs.length≤sizeLine∧∃its:List Value,Vals xs its∧IsTup h a its.toArray
  | .dK kvs=>kvs.length≤sizeLine∧(a==sysModules)=false∧∃vs,KV kvs vs∧h.DictOf (zaz P w) a vs
  | .dT kvs=>kvs.length≤sizeLine∧(a==sysModules)=false∧∃xs:List (List Key×Addr×Value),
      Paired (fun (p:List Key×V) (q:List Key×Addr×Value)=>p.1=q.1∧H q.2.1=some (.tup (p.1.map kV))∧RelV p.2 q.2.2) kvs xs∧
      ∃o es ep,h.get? a=some o∧o.ExactDict∧o.data = .dict es ep∧es.toList=xs.map (entryOfKey (tupleKind (zaz P w)))∧(xs.map (·.1)).Nodup
  | .set S n=>h.SetOf (intKind P w) a S n
  | .ins C dx fs=>H dx=some (.own a)∧fs.length≤1000∧dx≠a∧h.get? a=some (PySem.W.instObj C dx)∧
      ∃mA,h.Ns1 dx mA∧(∀f,RelO (fs.lookup f) (mA f))∧PySem.Within mA (fs.map (·.1))
  | .own _=>∃o,h.get? a=some o
  | .xd fs=>∃mA,h.Ns1 a mA∧∀f,RelO (fs.lookup f) (mA f)
  | .rng lo hi=>∃t u v,h.get? a=some { cls:=.type "range",data:=.fields #[.int lo t,.int hi u,.int 1 v] }
  | .frz o u=>h.get? a=some o∧zaX H h a u
  | .tbl ps=>h.get? a=some { cls:=.none,data:=.fields ps }
  | .met f x=>h.get? a=some (PySem.W.methodObj (.ref f) (.ref x))
  | .ext φ=>φ h∧(∃o,h.get? a=some o)∧∀h1 h2:Heap,φ h1→(∀o,h1.get? a=some o→h2.get? a=some o)→φ h2
noncomputable def HOk (H:Hp) (h:Heap):Prop:=∀a o,H a=some o→zaX P w H h a o
end
section
variable {P:Program} {w:World} {H H':Hp} {h h':Heap} {a:Addr} {o:HO}
theorem zaX.lt (x:zaX P w H h a o):a<h.objs.size:=by
  cases o with
  | lst xs=>obtain ⟨_,_,_,_,e⟩:=x;exact Heap.lt_size e
  | tup xs=>obtain ⟨_,_,_,p⟩:=x;exact p.lt
  | dK kvs=>obtain ⟨_,_,_,_,o,_,_,e,_⟩:=x;exact Heap.lt_size e
  | dT kvs=>obtain ⟨_,_,_,_,o,_,_,e,_⟩:=x;exact Heap.lt_size e
  | set S n=>obtain ⟨o,_,_,_,e,_⟩:=x;exact Heap.lt_size e
  | ins C dx fs=>obtain ⟨_,_,_,e,_⟩:=x;exact Heap.lt_size e
  | own y=>obtain ⟨_,e⟩:=x;exact Heap.lt_size e
  | xd fs=>obtain ⟨_,⟨_,_,_,e,_⟩,_⟩:=x;exact Heap.lt_size e
  | rng lo hi=>obtain ⟨_,_,_,e⟩:=x;exact Heap.lt_size e
  | frz ob u=>obtain ⟨e,_⟩:=x;exact Heap.lt_size e
  | tbl ps=>exact Heap.lt_size (show h.get? a=some _ from x)
  | met f y=>exact Heap.lt_size (show h.get? a=some _ from x)
  | ext φ=>obtain ⟨_,⟨_,e⟩,_⟩:=x;exact Heap.lt_size e
theorem Paired.mapP {α β:Type} {F G:α→β→Prop}:∀ {l₁:List α} {l₂:List β},Paired F l₁ l₂→(∀a b,F a b→G a b)→Paired G l₁ l₂
  | _,_,.nil,_=>.nil
  | _,_,.cons r t,f=>.cons (f _ _ r) (Paired.mapP t f)
theorem zaX.stay (x:zaX P w H h a o) (k:∀b u,(b=a∨H b=some (.own a))→h.get? b=some u→h'.get? b=some u)
    (ho:∀b,H b=some (.own a)→H' b=some (.own a)) (ht:∀b xs,H b=some (.tup xs)→H' b=some (.tup xs)):zaX P w H' h' a o:=by
  induction o with
  | lst xs=>obtain ⟨z,its,n,r,e⟩:=x;exact ⟨z,its,n,r,k _ _ (.inl rfl) e⟩
  | tup xs=>obtain ⟨z,its,r,ob,e,c⟩:=x;exact ⟨z,its,r,ob,k _ _ (.inl rfl) e,c⟩
  | dK kvs=>obtain ⟨z,y,vs,r,ob,es,ep,e,c⟩:=x;exact ⟨z,y,vs,r,ob,es,ep,k _ _ (.inl rfl) e,c⟩
  | dT kvs =>
    obtain ⟨z,y,xs,r,ob,es,ep,e,c⟩:=x
    exact ⟨z,y,xs,Paired.mapP r fun p q z=>⟨z.1,ht _ _ z.2.1,z.2.2⟩,ob,es,ep,k _ _ (.inl rfl) e,c⟩
  | set S n=>obtain ⟨ob,es,ep,t,e,c⟩:=x;exact ⟨ob,es,ep,t,k _ _ (.inl rfl) e,c⟩
  | ins C dx fs =>
    obtain ⟨d,z,ne,e,mA,⟨od,es,ep,e2,c⟩,r⟩:=x
    exact ⟨ho _ d,z,ne,k _ _ (.inl rfl) e,mA,⟨od,es,ep,k _ _ (.inr d) e2,c⟩,r⟩
  | own y=>obtain ⟨ob,e⟩:=x;exact ⟨ob,k _ _ (.inl rfl) e⟩
  | xd fs=>obtain ⟨mA,⟨od,es,ep,e,c⟩,r⟩:=x;exact ⟨mA,⟨od,es,ep,k _ _ (.inl rfl) e,c⟩,r⟩
  | rng lo hi=>obtain ⟨t,u,v,e⟩:=x;exact ⟨t,u,v,k _ _ (.inl rfl) e⟩
  | frz ob u ih=>obtain ⟨e,q⟩:=x;exact ⟨k _ _ (.inl rfl) e,ih q⟩
  | tbl ps =>
    have e:h.get? a=some { cls:=.none,data:=.fields ps }:=x
    show h'.get? a=some { cls:=.none,data:=.fields ps }
    exact k a _ (.inl rfl) e
  | met f y =>
    have e:h.get? a=some (PySem.W.methodObj (.ref f) (.ref y)):=x
    show h'.get? a=some (PySem.W.methodObj (.ref f) (.ref y))
    exact k a _ (.inl rfl) e
  | ext φ=>obtain ⟨p,⟨o,e⟩,st⟩:=x;exact ⟨st _ _ p fun o q=>k _ _ (.inl rfl) q,⟨o,k _ _ (.inl rfl) e⟩,st⟩
theorem HOk.lt (x:HOk P w H h) (e:H a=some o):a<h.objs.size:=(x a o e).lt
theorem HOk.fresh (x:HOk P w H h) (e:h.objs.size≤a):H a=none:=by
  cases q:H a with
  | none=>rfl
  | some u=>exact absurd (Nat.lt_of_lt_of_le (x.lt q) e) (Nat.lt_irrefl _)
theorem HOk.kept (x:HOk P w H h) (k:∀b u,h.get? b=some u→h'.get? b=some u):HOk P w H h':=fun a o e =>
  (x a o e).stay (fun b u _ q=>k b u q) (fun _ q=>q) fun _ _ q=>q
theorem HOk.laid (x:HOk P w H h) (k:∀b u,h.get? b=some u→h'.get? b=some u) (hp:h.objs.size≤a) (new:zaX P w (upd H a o) h' a o):HOk P w (upd H a o) h':=fun b u e=>by
  have hn:=x.fresh hp
  by_cases hb:b=a
  · subst hb;rw [zaa] at e;cases e;exact new
  · rw [zad hb] at e
    exact (x b u e).stay (fun c v _ q=>k c v q) (fun c q=>by rw [zad (zac q hn)];exact q) fun c xs q=>by rw [zad (zac q hn)];exact q
end
noncomputable def Rd (H:Hp) (a:Addr) (u:HO):Prop:=H a=some u∨∃o,H a=some (.frz o u)
theorem Rd.ok {P:Program} {w:World} {H:Hp} {h:Heap} {a:Addr} {u:HO} (r:Rd H a u) (x:HOk P w H h):zaX P w H h a u:=by
  rcases r with r | ⟨o,r⟩
  · exact x a u r
  · obtain ⟨_,q⟩:=x a _ r
    exact q
noncomputable def Mut:Option HO→Prop
  | some (.lst _)=>True
  | some (.dK _)=>True
  | some (.dT _)=>True
  | some (.set _ _)=>True
  | some (.ins _ _ _)=>True
  | some (.ext _)=>True
  | _=>False
section
variable {P:Program} {w:World} {H:Hp} {h h':Heap} {x e:Addr} {o':HO}
theorem HOk.write (ok:HOk P w H h) (mu:Mut (H x)) (he:e=x∨H e=some (.own x)) (k:∀b u,b≠e→h.get? b=some u→h'.get? b=some u) (heo:∃u,h'.get? e=some u)
    (new:zaX P w (upd H x o') h' x o'):HOk P w (upd H x o') h':=fun b u q=>by
  have nown:∀c y,H c=some (.own y)→c≠x:=fun c y r z=>by subst z;rw [r] at mu;exact mu
  have ntup:∀c xs,H c=some (.tup xs)→c≠x:=fun c xs r z=>by subst z;rw [r] at mu;exact mu
  by_cases hb:b=x
  · subst hb;rw [zaa] at q;cases q;exact new
  · rw [zad hb] at q
    by_cases hbe:b=e
    · have q':H b=some (.own x):=by
        rcases he with z|z
        · exact absurd (hbe.trans z) hb
        · rw [hbe];exact z
      rw [q] at q';cases q'
      obtain ⟨v,hv⟩:=heo
      exact ⟨v,by rw [hbe];exact hv⟩
    · refine (ok b u q).stay (fun c v hc r=>k c v ?_ r) (fun c r=>by rw [zad (nown c b r)];exact r) fun c xs r=>by rw [zad (ntup c xs r)];exact r
      rcases hc with rfl|hc
      · exact hbe
      · rintro rfl
        rcases he with z|z
        · exact nown c b hc z
        · rw [hc] at z;cases z;exact hb rfl
end
structure Un (fs ex:List Addr) (H H':Hp) (h h':Heap):Prop where
  keep:∀b o,h.get? b=some o→H b=none→b∉fs→b∉ex→h'.get? b=some o
  slot:∀b o,h.get? b=some o→H b=none→b∈fs→b∉ex→∃sl,h'.get? b=some { o with slots:=sl }
  free:∀b o,h.get? b=some o→H b=none→b∉ex→H' b=none
  there:∀b o,h.get? b=some o→b∉ex→∃o',h'.get? b=some o'
  tups:∀b xs,H b=some (.tup xs)→H' b=some (.tup xs)
  frzs:∀b o u,H b=some (.frz o u)→H' b=some (.frz o u)
  tbls:∀b ps,H b=some (.tbl ps)→∃more,H' b=some (.tbl (ps++more))
section
variable {fs fs' ex ex':List Addr} {H H1 H2:Hp} {h h1 h2 h':Heap} {a x e:Addr} {o:HO}
theorem Un.any (u:Un fs ex H H1 h h1) {b:Addr} {ob:Obj} (q:h.get? b=some ob) (n:H b=none) (hx:b∉ex):∃sl,h1.get? b=some { ob with slots:=sl }:=by
  by_cases hb:b∈fs
  · exact u.slot b ob q n hb hx
  · exact ⟨ob.slots,u.keep b ob q n hb hx⟩
theorem Un.kept (k:∀b u,h.get? b=some u→h'.get? b=some u):Un fs ex H H h h' :=
  ⟨fun b ob q _ _ _=>k b ob q,fun b ob q _ _ _=>⟨ob.slots,k b ob q⟩,fun _ _ _ n _=>n,fun b ob q _=>⟨ob,k b ob q⟩,fun _ _ q=>q,fun _ _ _ q=>q,fun _ ps q=>⟨#[],by rw [q];simp⟩⟩
theorem Un.refl:Un fs ex H H h h:=Un.kept fun _ _ q=>q
theorem Un.laid (k:∀b u,h.get? b=some u→h'.get? b=some u) (hp:h.objs.size≤a) (hn:H a=none):Un fs ex H (upd H a o) h h' where
  keep:=fun b u q _ _ _=>k b u q
  slot:=fun b u q _ _ _=>⟨u.slots,k b u q⟩
  free:=fun b u q n _=>by rw [zad (Nat.ne_of_lt (Nat.lt_of_lt_of_le (Heap.lt_size q) hp))];exact n
  there:=fun b u q _=>⟨u,k b u q⟩
  tups:=fun b xs q=>by rw [zad (zac q hn)];exact q
  frzs:=fun b u xs q=>by rw [zad (zac q hn)];exact q
  tbls:=fun b ps q=>⟨#[],by rw [zad (zac q hn),q];simp⟩
theorem Un.write (mu:Mut (H x)) (he:e=x∨H e=some (.own x)) (k:∀b u,b≠e→h.get? b=some u→h'.get? b=some u) (heo:∃u,h'.get? e=some u):Un fs ex H (upd H x o) h h':=by
  have hx:∀b,H b=none→b≠x:=fun b n z=>by subst z;rw [n] at mu;exact mu
  have hb:∀b,H b=none→b≠e:=fun b n z=>by
    subst z
    rcases he with r|r
    · exact hx b n r
    · rw [n] at r;cases r
  have hm:∀b u,H b=some u→¬ Mut (some u)→b≠x:=fun b u q nm z=>by subst z;rw [q] at mu;exact nm mu
  refine ⟨fun b u q n _ _=>k b u (hb b n) q,fun b u q n _ _=>⟨u.slots,k b u (hb b n) q⟩,fun b u q n _=>by rw [zad (hx b n)];exact n,fun b u q _=>?_,
    fun b xs q=>by rw [zad (hm b _ q fun z=>z)];exact q,fun b u xs q=>by rw [zad (hm b _ q fun z=>z)];exact q,fun b ps q=>⟨#[],by rw [zad (hm b _ q fun z=>z),q];simp⟩⟩
  by_cases hbe:b=e
  · subst hbe;exact heo
  · exact ⟨u,k b u hbe q⟩
end
noncomputable def trk (h:Heap) (H:Hp):List Addr:=(List.range h.objs.size).filter fun a=>(H a).isSome
noncomputable def hidT (h:Heap) (H:Hp):Heap:=PySem.W.hideAll h (trk h H)
theorem yfn (h:Heap) (H:Hp):(hidT h H).objs.size=h.objs.size:=PySem.W.hideAll_size _ _
theorem zf2 {h:Heap} {H:Hp} {b:Addr} {o:Obj} (e:h.get? b=some o) (n:H b=none):(hidT h H).get? b=some o :=
  PySem.W.hideAll_get _ e fun hm=>by
    have q:(H b).isSome=true:=(List.mem_filter.mp hm).2
    rw [n] at q;simp at q
theorem zgK {h:Heap} {H:Hp} {b:Addr} {o:Obj} (e:(hidT h H).get? b=some o):h.get? b=some o∧H b=none:=by
  have e':h.get? b=some o:=PySem.W.of_hideAll (trk h H) e
  refine ⟨e',?_⟩
  cases q:H b with
  | none=>rfl
  | some x =>
    have hm:b∈trk h H:=List.mem_filter.mpr ⟨List.mem_range.mpr (Heap.lt_size e'),by simp [q]⟩
    have z:(hidT h H).get? b=none:=PySem.W.hideAll_none (trk h H) hm
    rw [z] at e;cases e
end L2
namespace L2
open PySem PySem.Spec PyProof.Rows
structure Mod (K:PySem.W.Frag) (mg:Str→Option Value) (base:Heap):Prop where
  kin:K.In base
  glob:base.Ns mainGlobals mg
  blt:∃mb,base.Ns builtinsNs mb∧∀x:Str,x≠"__name__"→mb x=bootBuiltins x
  nolimit:base.NoLimit
structure Cx where
  prog:Program
  w:World
  K:PySem.W.Frag
  mg:Str→Option Value
  base:Heap
  A:Around
  N:List Str
  s₀:Shared
  H₀:Hp
  env:Env
  outer:List Env
  stack:List Env
  ex:List Addr
  fn:Str→Bool
  calm:Bool
  pn:List (Addr×Obj)
  xe:Value→Shared→Prop
noncomputable def frs (l:List Env):List Addr:=l.filterMap (·.frame)
noncomputable abbrev Cx.fs (X:Cx):List Addr:=frs X.outer
noncomputable def Vis (sc:Scope) (x:Str):Prop:=sc.names.lookup x=some .local∨sc.names.lookup x=some .cell∨sc.names.lookup x=some .free
noncomputable def Loc (sc:Scope) (x:Str):Prop:=sc.names.lookup x=some .local∨sc.names.lookup x=some .cell
noncomputable def Look (env:Env) (h:Heap) (m:Str→Option Value) (x:Str) (u:Value):Prop :=
  (env.kindOf x=some .local∧m x=some u)∨((env.kindOf x=some .cell∨env.kindOf x=some .free)∧∃c,env.cells.lookup x=some c∧h.IsCell c (some u))
structure Cx.Ok (X:Cx):Prop where
  mod:Mod X.K X.mg X.base
  kind:X.env.scope.kind = .function
  glob:X.env.globals=mainGlobals
  blt:X.env.builtins=builtinsNs
  above:X.s₀.heap.objs.size≤X.env.locals
  inj:∀x y c,X.env.cells.lookup x=some c→X.env.cells.lookup y=some c→x=y
  has:∀x,(X.env.kindOf x=some .cell∨X.env.kindOf x=some .free)→∃c,X.env.cells.lookup x=some c
  cab:∀x c,X.fn x=true→X.env.cells.lookup x=some c→X.s₀.heap.objs.size≤c
  hd:X.calm=true→X.A.handled=none
  frames:X.A.frames=some X.stack
  stk:X.stack=X.outer∨(X.stack=X.env::X.outer∧X.env.frame=some X.env.locals)
  exf:∀b∈X.ex,b≠X.env.locals∧∀x c,X.env.cells.lookup x=some c→c≠b
  bs:∀b o,X.base.get? b=some o→X.s₀.heap.get? b=some o∧X.H₀ b=none
  bsz:X.base.objs.size≤X.s₀.heap.objs.size
  noex:∀b o,X.base.get? b=some o→b∉X.ex
  exfs:∀b∈X.ex,b∉X.fs
  funs:X.s₀.heap.FunFrames X.base X.outer
  frf:∀b∈X.fs,X.H₀ b=none
structure Inv (X:Cx) (pins:List (Addr×Obj)) (σ:List (Option V)) (H:Hp) (s:Shared):Prop where
  ok:X.Ok
  os:s.os=X.s₀.os
  bare:AllBare s.gens
  base:Un X.fs X.ex X.H₀ H X.s₀.heap s.heap
  loc:∃m,s.heap.Ns X.env.locals m∧∀(i:Nat) (x:Str) (v:V),X.N[i]?=some x→σ[i]?=some (some v)→Vis X.env.scope x→∃u,RelV v u∧Look X.env s.heap m x u
  cell:∀x c,X.env.cells.lookup x=some c→∃v,s.heap.IsCell c v
  free:H X.env.locals=none
  freeC:∀x c,X.env.cells.lookup x=some c→H c=none
  pin:∀p∈X.pn++pins,s.heap.get? p.1=some p.2∧H p.1=none∧p.1≠X.env.locals∧p.1∉X.fs∧∀v,p.2.data≠.cell v
  hok:HOk X.prog X.w H s.heap
  len:σ.length=X.N.length
section
variable {X:Cx} {pins:List (Addr×Obj)} {σ:List (Option V)} {H H':Hp} {s:Shared} {h':Heap}
theorem Cx.Ok.nofr (ok:X.Ok) {b:Addr} {o:Obj} (e:X.base.get? b=some o):b∉X.fs:=fun hb=>by
  have:=(ok.funs.mem hb).1
  rw [e] at this;cases this
theorem Inv.bs (I:Inv X pins σ H s):∀b o,X.base.get? b=some o→s.heap.get? b=some o∧H b=none:=fun b o e =>
  ⟨I.base.keep b o (I.ok.bs b o e).1 (I.ok.bs b o e).2 (I.ok.nofr e) (I.ok.noex b o e),I.base.free b o (I.ok.bs b o e).1 (I.ok.bs b o e).2 (I.ok.noex b o e)⟩
theorem Inv.bk (I:Inv X pins σ H s):∀b o,X.base.get? b=some o→s.heap.get? b=some o:=fun b o e=>(I.bs b o e).1
theorem Inv.mod (I:Inv X pins σ H s):Mod X.K X.mg X.base:=I.ok.mod
theorem Inv.kIn (I:Inv X pins σ H s):X.K.In s.heap:=I.ok.mod.kin.keeps I.bk
theorem Inv.lt (I:Inv X pins σ H s):X.env.locals<s.heap.objs.size:=let ⟨_,hn,_⟩:=I.loc;hn.lt
theorem Inv.sz (I:Inv X pins σ H s):X.s₀.heap.objs.size≤s.heap.objs.size:=Nat.le_trans I.ok.above (Nat.le_of_lt I.lt)
theorem Inv.nofs (I:Inv X pins σ H s) {a:Addr} (h:s.heap.objs.size≤a):a∉X.fs:=fun hb=>by
  obtain ⟨_,o,ho,_⟩:=I.ok.funs.mem hb
  exact absurd (Nat.lt_of_lt_of_le (Heap.lt_size ho) (Nat.le_trans I.sz h)) (Nat.lt_irrefl _)
theorem Inv.cne (I:Inv X pins σ H s):∀x c,X.env.cells.lookup x=some c→c≠X.env.locals:=fun x c e z=>by
  obtain ⟨v,o,ho,hd⟩:=I.cell x c e
  obtain ⟨m,⟨o',es,ep,ho',hd',_⟩,_⟩:=I.loc
  rw [z,ho'] at ho;cases ho;rw [hd'] at hd;cases hd
theorem Inv.funs (I:Inv X pins σ H s):s.heap.FunFrames X.base X.outer:=by
  have all:∀(l:List Env),(∀b∈frs l,b∈X.fs)→X.s₀.heap.FunFrames X.base l→s.heap.FunFrames X.base l:=by
    intro l
    induction l with
    | nil=>intro _ _;trivial
    | cons env r ih =>
      intro hs hl
      obtain ⟨hk,⟨L,o,hf,hn,ho,hd⟩,hr⟩:=hl
      have hL:L∈X.fs:=hs L (by unfold frs;rw [List.filterMap_cons,hf];exact List.mem_cons_self)
      obtain ⟨sl,e⟩:=I.base.slot L o ho (I.ok.frf L hL) hL fun z=>I.ok.exfs L z hL
      exact ⟨hk,⟨L,_,hf,hn,e,hd⟩,ih (fun b hb=>hs b (by unfold frs;rw [List.filterMap_cons,hf];exact List.mem_cons_of_mem _ hb)) hr⟩
  exact all X.outer (fun _ hb=>hb) I.ok.funs
theorem Inv.stack (I:Inv X pins σ H s):s.heap.FunFrames X.base X.stack:=by
  rcases I.ok.stk with e | ⟨e,hf⟩
  · rw [e];exact I.funs
  · rw [e]
    obtain ⟨m,hn,_⟩:=I.loc
    refine .cons (by rw [I.ok.kind];decide) hf hn ?_ I.funs
    exact Heap.get?_none_of_le (Nat.le_trans I.ok.bsz I.ok.above)
theorem Inv.stkSub (I:Inv X pins σ H s):∀b∈frs X.stack,b∈X.env.locals::X.fs:=fun b hb=>by
  rcases I.ok.stk with e | ⟨e,hf⟩
  · rw [e] at hb;exact List.mem_cons_of_mem _ hb
  · rw [e] at hb
    unfold frs at hb
    rw [List.filterMap_cons,hf] at hb
    exact hb
theorem Inv.stkFree (I:Inv X pins σ H s):∀b∈frs X.stack,H b=none:=fun b hb=>by
  rcases List.mem_cons.mp (I.stkSub b hb) with e|hb
  · rw [e];exact I.free
  · obtain ⟨_,o,ho,_⟩:=I.ok.funs.mem hb
    exact I.base.free b o ho (I.ok.frf b hb) fun z=>I.ok.exfs b z hb
theorem Inv.step {g':Array GenState} {t':Nat} {d':Drawn} {ch:List Addr} (I:Inv X pins σ H s)
    (hch:∀b∈ch,(b∈X.ex∨X.s₀.heap.objs.size≤b)∧b≠X.env.locals∧(∀x c,X.env.cells.lookup x=some c→c≠b)∧∀p∈X.pn++pins,p.1≠b)
    (keep:∀b o,b≠X.env.locals→b∉X.fs→b∉ch→s.heap.get? b=some o→H b=none→h'.get? b=some o)
    (slot:∀b o,b≠X.env.locals→b∈X.fs→b∉ch→s.heap.get? b=some o→H b=none→∃sl,h'.get? b=some { o with slots:=sl }) (free:∀b o,b∉ch→s.heap.get? b=some o→H b=none→H' b=none)
    (there:∀b o,b∉ch→s.heap.get? b=some o→∃o',h'.get? b=some o')
    (tups:∀b xs,H b=some (.tup xs)→H' b=some (.tup xs)) (frzs:∀b o u,H b=some (.frz o u)→H' b=some (.frz o u)) (tbls:∀b ps,H b=some (.tbl ps)→∃more,H' b=some (.tbl (ps++more)))
    (ns:∀m,s.heap.Ns X.env.locals m→h'.Ns X.env.locals m) (hok:HOk X.prog X.w H' h') (hg:AllBare g') :
    Inv X pins σ H' { s with heap:=h',gens:=g',drawn:=d',toks:=t' }:=by
  have neL:∀b o,X.s₀.heap.get? b=some o→b≠X.env.locals:=fun b o e=>Nat.ne_of_lt (Nat.lt_of_lt_of_le (Heap.lt_size e) I.ok.above)
  have neC:∀b o,X.s₀.heap.get? b=some o→b∉X.ex→b∉ch:=fun b o e hx hb=>by
    rcases (hch b hb).1 with z|z
    · exact hx z
    · exact absurd (Nat.lt_of_lt_of_le (Heap.lt_size e) z) (Nat.lt_irrefl _)
  have cellK:∀x c,X.env.cells.lookup x=some c→∀v,s.heap.IsCell c v→h'.IsCell c v:=fun x c e v ⟨o,ho,hd⟩=>by
    have nch:c∉ch:=fun z=>(hch c z).2.2.1 x c e rfl
    by_cases hc:c∈X.fs
    · obtain ⟨sl,q⟩:=slot c o (I.cne x c e) hc nch ho (I.freeC x c e)
      exact ⟨_,q,hd⟩
    · exact ⟨o,keep c o (I.cne x c e) hc nch ho (I.freeC x c e),hd⟩
  refine ⟨I.ok,I.os,hg,⟨fun b o e n hb hx=>?_,fun b o e n hb hx=>?_,fun b o e n hx=>?_,fun b o e hx=>?_,fun b xs e=>tups b xs (I.base.tups b xs e),fun b o xs e=>frzs b o xs (I.base.frzs b o xs e),fun b ps e=>?_⟩,?_,fun x c e=>?_,?_,fun x c e=>?_,fun p hp=>?_,hok,I.len⟩
  · exact keep b o (neL b o e) hb (neC b o e hx) (I.base.keep b o e n hb hx) (I.base.free b o e n hx)
  · obtain ⟨sl,e1⟩:=I.base.slot b o e n hb hx
    obtain ⟨sl',e2⟩:=slot b _ (neL b o e) hb (neC b o e hx) e1 (I.base.free b o e n hx)
    exact ⟨sl',e2⟩
  · obtain ⟨o',e1⟩:=I.base.there b o e hx
    exact free b o' (neC b o e hx) e1 (I.base.free b o e n hx)
  · obtain ⟨o',e1⟩:=I.base.there b o e hx
    exact there b o' (neC b o e hx) e1
  · obtain ⟨m1,e1⟩:=I.base.tbls b ps e
    obtain ⟨m2,e2⟩:=tbls b _ e1
    exact ⟨m1++m2,by rw [e2,Array.append_assoc]⟩
  · obtain ⟨m,hn,hl⟩:=I.loc
    refine ⟨m,ns m hn,fun i x v e1 e2 e3=>?_⟩
    obtain ⟨u,r,l⟩:=hl i x v e1 e2 e3
    refine ⟨u,r,?_⟩
    rcases l with l | ⟨k,c,e,z⟩
    · exact .inl l
    · exact .inr ⟨k,c,e,cellK x c e _ z⟩
  · obtain ⟨v,z⟩:=I.cell x c e
    exact ⟨v,cellK x c e v z⟩
  · obtain ⟨m,⟨o,_,_,ho,_⟩,_⟩:=I.loc
    exact free _ o (fun z=>(hch _ z).2.1 rfl) ho I.free
  · obtain ⟨v,o,ho,hd⟩:=I.cell x c e
    exact free c o (fun z=>(hch c z).2.2.1 x c e rfl) ho (I.freeC x c e)
  · obtain ⟨e,n,ne,nf,d⟩:=I.pin p hp
    have nch:p.1∉ch:=fun z=>(hch p.1 z).2.2.2 p hp rfl
    exact ⟨keep p.1 p.2 ne nf nch e n,free p.1 p.2 nch e n,ne,nf,d⟩
theorem Inv.un {t':Nat} (I:Inv X pins σ H s) (u:Un X.fs [] H H' s.heap h') (hok:HOk X.prog X.w H' h'):Inv X pins σ H' { s with heap:=h',toks:=t' }:=by
  obtain ⟨m,⟨o,es,ep,ho,r⟩,_⟩:=id I.loc
  obtain ⟨sl,hL⟩:=u.any ho I.free (by simp)
  exact I.step (g':=s.gens) (d':=s.drawn) (ch:=[]) (fun _ z=>nomatch z) (fun b o _ hb _ e n=>u.keep b o e n hb (by simp)) (fun b o _ hb _ e n=>u.slot b o e n hb (by simp)) (fun b o _ e n=>u.free b o e n (by simp)) (fun b o _ e=>u.there b o e (by simp)) u.tups u.frzs u.tbls (fun m' hm=>by
    obtain ⟨o',es',ep',ho',r'⟩:=hm
    rw [ho] at ho';cases ho'
    exact ⟨_,es',ep',hL,r'⟩) hok I.bare
theorem Inv.call {g':Array GenState} {t':Nat} {d':Drawn} {ch:List Addr} (I:Inv X pins σ H s) (u:Un (frs X.stack) ch H H' s.heap h') (hok:HOk X.prog X.w H' h') (hg:AllBare g')
    (hch:∀b∈ch,(b∈X.ex∨X.s₀.heap.objs.size≤b)∧b≠X.env.locals∧(∀x c,X.env.cells.lookup x=some c→c≠b)∧∀p∈X.pn++pins,p.1≠b) :
    Inv X pins σ H' { s with heap:=h',gens:=g',drawn:=d',toks:=t' }:=by
  obtain ⟨m,⟨o,es,ep,ho,r⟩,_⟩:=id I.loc
  obtain ⟨sl,hL⟩:=u.any ho I.free fun z=>(hch _ z).2.1 rfl
  exact I.step (ch:=ch) hch (fun b o hL hb hc e n=>u.keep b o e n (fun z=>(List.mem_cons.mp (I.stkSub b z)).elim hL hb) hc) (fun b o _ _ hc e n=>u.any e n hc) (fun b o hc e n=>u.free b o e n hc) (fun b o hc e=>u.there b o e hc) u.tups u.frzs u.tbls (fun m' hm=>by
    obtain ⟨o',es',ep',ho',r'⟩:=hm
    rw [ho] at ho';cases ho'
    exact ⟨_,es',ep',hL,r'⟩) hok hg
theorem Inv.turned {t':Nat} {it:Addr} (I:Inv X pins σ H s) (k:∀b o,b≠it→s.heap.get? b=some o→h'.get? b=some o) (hn:H it=none) (hL:it≠X.env.locals)
    (h1:it∈X.ex∨X.s₀.heap.objs.size≤it) (h2:∀x c,X.env.cells.lookup x=some c→c≠it) (h3:∀p∈X.pn++pins,p.1≠it):Inv X pins σ H { s with heap:=h',toks:=t' }:=by
  have nit:∀b u,H b=some u→b≠it:=fun b u e z=>by rw [z,hn] at e;cases e
  refine I.step (g':=s.gens) (d':=s.drawn) (ch:=[it]) (fun b hb=>?_) (fun b o _ _ hc e _=>k b o (fun z=>hc (by simp [z])) e) (fun b o _ _ hc e _=>⟨o.slots,k b o (fun z=>hc (by simp [z])) e⟩) (fun _ _ _ _ n=>n)
    (fun b o hc e=>⟨o,k b o (fun z=>hc (by simp [z])) e⟩) (fun _ _ e=>e) (fun _ _ _ e=>e) (fun b ps e=>⟨#[],by rw [e];simp⟩) (fun m hm=>?_) (fun b u e=>?_) I.bare
  · have e:b=it:=by simpa using hb
    subst e
    exact ⟨h1,hL,h2,h3⟩
  · obtain ⟨o,es,ep,ho,r⟩:=hm
    exact ⟨o,es,ep,k _ o (Ne.symm hL) ho,r⟩
  · refine (I.hok b u e).stay (fun c v hc q=>k c v ?_ q) (fun _ q=>q) fun _ _ q=>q
    rcases hc with z|z
    · rw [z];exact nit b u e
    · exact nit c _ z
theorem Inv.tok (I:Inv X pins σ H s) (t:Nat):Inv X pins σ H { s with toks:=t }:=I.un (h':=s.heap) (t':=t) Un.refl I.hok
theorem Inv.kept {t':Nat} (I:Inv X pins σ H s) (k:∀b u,s.heap.get? b=some u→h'.get? b=some u):Inv X pins σ H { s with heap:=h',toks:=t' }:=I.un (Un.kept k) (I.hok.kept k)
theorem Inv.laid {a:Addr} {o:HO} {t':Nat} (I:Inv X pins σ H s) (k:∀b u,s.heap.get? b=some u→h'.get? b=some u) (hp:s.heap.objs.size≤a) (new:zaX X.prog X.w (upd H a o) h' a o) :
    Inv X pins σ (upd H a o) { s with heap:=h',toks:=t' }:=I.un (Un.laid k hp (I.hok.fresh hp)) (I.hok.laid k hp new)
theorem Inv.write {x e:Addr} {o:HO} {t':Nat} (I:Inv X pins σ H s) (mu:Mut (H x)) (he:e=x∨H e=some (.own x)) (k:∀b u,b≠e→s.heap.get? b=some u→h'.get? b=some u) (heo:∃u,h'.get? e=some u)
    (new:zaX X.prog X.w (upd H x o) h' x o):Inv X pins σ (upd H x o) { s with heap:=h',toks:=t' }:=I.un (Un.write mu he k heo) (I.hok.write mu he k heo new)
theorem Inv.pins_of {pins':List (Addr×Obj)} (I:Inv X pins σ H s) (h:∀p∈pins',s.heap.get? p.1=some p.2∧H p.1=none∧p.1≠X.env.locals∧p.1∉X.fs∧∀v,p.2.data≠.cell v):Inv X pins' σ H s :=
  ⟨I.ok,I.os,I.bare,I.base,I.loc,I.cell,I.free,I.freeC,fun p hp=>(List.mem_append.mp hp).elim (fun z=>I.pin p (List.mem_append_left _ z)) (h p),I.hok,I.len⟩
theorem yei {N:List Str} (hN:N.Nodup) {i j:Nat} {x:Str} (a:N[i]?=some x) (b:N[j]?=some x):i=j:=by
  obtain ⟨h1,e1⟩:=List.getElem?_eq_some_iff.mp a
  obtain ⟨h2,e2⟩:=List.getElem?_eq_some_iff.mp b
  exact (List.getElem_inj hN).mp (e1.trans e2.symm)
theorem zeK {M:Model} {A:Around} {E:Value→Shared→Prop} {i:Nat} {x:Str} {v:V} {u:Value} {Q:Unit→Shared→Prop} (I:Inv X pins σ H s) (hN:X.N.Nodup) (hi:X.N[i]?=some x) (hx:Loc X.env.scope x) (r:RelV v u)
    (h:∀s',Inv X pins (σ.set i (some v)) H s'→(∃a,Heap.SameBut a s.heap s'.heap∧(a=X.env.locals∨X.env.cells.lookup x=some a))→Q () s') (hf:X.fn x=true∨X.env.scope.names.lookup x=some .local:=by first|exact .inl rfl|exact .inr rfl|assumption):wpAny M A (storeName X.env x u) Q E s:=by
  obtain ⟨m,hn,hl⟩:=id I.loc
  have hcls:(X.env.scope.kind==.class||(X.env.scope.kind==.module&&X.env.locals != X.env.globals))=false:=by rw [I.ok.kind];rfl
  have hiσ:i < σ.length:=by rw [I.len];exact (List.getElem?_eq_some_iff.mp hi).1
  have cne:=I.cne
  have tracked:∀ {a:Addr} {h':Heap},(∃o,s.heap.get? a=some o∧H a=none)→Heap.SameBut a s.heap h'→HOk X.prog X.w H h':=fun {a h'} ha hs b ob e=>by
    obtain ⟨_,_,hfree⟩:=ha
    refine (I.hok b ob e).stay (fun c w' hc q=>(hs.2 c ?_).trans q) (fun _ q=>q) fun _ _ q=>q
    rintro rfl
    rcases hc with rfl|hc
    · rw [hfree] at e;cases e
    · rw [hfree] at hc;cases hc
  rcases hx with hk|hk
  · refine wpAny_storeName_local hk hn (fun h' hn' hs=>?_) hcls
    obtain ⟨oL,_,_,hoL,_⟩:=id hn
    refine h _ ⟨I.ok,I.os,I.bare,⟨fun b o e n hb hx=>?_,fun b o e n hb hx=>?_,I.base.free,fun b o e hx=>?_,I.base.tups,I.base.frzs,I.base.tbls⟩,⟨_,hn',fun j y v' e1 e2 e3=>?_⟩,fun y c e=>?_,I.free,I.freeC,fun p hp=>?_,tracked ⟨oL,hoL,I.free⟩ hs,by simpa using I.len⟩ ⟨_,hs,.inl rfl⟩
    · exact (hs.2 b (Nat.ne_of_lt (Nat.lt_of_lt_of_le (Heap.lt_size e) I.ok.above))).trans (I.base.keep b o e n hb hx)
    · obtain ⟨sl,e1⟩:=I.base.slot b o e n hb hx
      exact ⟨sl,(hs.2 b (Nat.ne_of_lt (Nat.lt_of_lt_of_le (Heap.lt_size e) I.ok.above))).trans e1⟩
    · obtain ⟨o',e1⟩:=I.base.there b o e hx
      exact ⟨o',(hs.2 b (Nat.ne_of_lt (Nat.lt_of_lt_of_le (Heap.lt_size e) I.ok.above))).trans e1⟩
    · by_cases hj:j=i
      · subst hj
        rw [hi] at e1;cases e1
        rw [List.getElem?_set_self hiσ] at e2
        cases e2
        exact ⟨u,r,.inl ⟨hk,by simp⟩⟩
      · rw [List.getElem?_set_ne (Ne.symm hj)] at e2
        obtain ⟨u',r',q⟩:=hl j y v' e1 e2 e3
        refine ⟨u',r',?_⟩
        rcases q with ⟨k,e⟩ | ⟨k,c,e,z⟩
        · refine .inl ⟨k,?_⟩
          have:y≠x:=fun e=>hj (yei hN e1 (e ▸ hi))
          simp [this,e]
        · exact .inr ⟨k,c,e,z.sameBut hs (cne y c e)⟩
    · obtain ⟨w',z⟩:=I.cell y c e
      exact ⟨w',z.sameBut hs (cne y c e)⟩
    · obtain ⟨e,n,ne,nf,d⟩:=I.pin p hp
      exact ⟨(hs.2 p.1 ne).trans e,n,ne,nf,d⟩
  · have hfn:X.fn x=true:=by
      rcases hf with z|z
      · exact z
      · rw [z] at hk;cases hk
    obtain ⟨c,hc⟩:=I.ok.has x (.inl hk)
    obtain ⟨w',z⟩:=I.cell x c hc
    refine wpAny_storeName_cell I.ok.kind hk hc z (fun h' hc' hs=>?_)
    obtain ⟨oc,hoc,hocd⟩:=id z
    refine h { s with heap:=h' } ⟨I.ok,I.os,I.bare,⟨fun b o e n hb hx=>?_,fun b o e n hb hx=>?_,I.base.free,fun b o e hx=>?_,I.base.tups,I.base.frzs,I.base.tbls⟩,⟨m,hn.sameBut hs (Ne.symm (cne x c hc)),fun j y v' e1 e2 e3=>?_⟩,fun y c' e=>?_,I.free,I.freeC,fun p hp=>?_,tracked ⟨oc,hoc,I.freeC x c hc⟩ hs,by simpa using I.len⟩ ⟨c,hs,.inr hc⟩
    · exact (hs.2 b (Nat.ne_of_lt (Nat.lt_of_lt_of_le (Heap.lt_size e) (I.ok.cab x c hfn hc)))).trans (I.base.keep b o e n hb hx)
    · obtain ⟨sl,e1⟩:=I.base.slot b o e n hb hx
      exact ⟨sl,(hs.2 b (Nat.ne_of_lt (Nat.lt_of_lt_of_le (Heap.lt_size e) (I.ok.cab x c hfn hc)))).trans e1⟩
    · obtain ⟨o',e1⟩:=I.base.there b o e hx
      exact ⟨o',(hs.2 b (Nat.ne_of_lt (Nat.lt_of_lt_of_le (Heap.lt_size e) (I.ok.cab x c hfn hc)))).trans e1⟩
    · by_cases hj:j=i
      · subst hj
        rw [hi] at e1;cases e1
        rw [List.getElem?_set_self hiσ] at e2
        cases e2
        exact ⟨u,r,.inr ⟨.inl hk,c,hc,hc'⟩⟩
      · rw [List.getElem?_set_ne (Ne.symm hj)] at e2
        obtain ⟨u',r',q⟩:=hl j y v' e1 e2 e3
        refine ⟨u',r',?_⟩
        rcases q with q | ⟨k,c',e,z'⟩
        · exact .inl q
        · refine .inr ⟨k,c',e,z'.sameBut hs ?_⟩
          rintro rfl
          exact hj (yei hN e1 (I.ok.inj _ _ _ e hc ▸ hi))
    · by_cases hcc:c'=c
      · subst hcc;exact ⟨_,hc'⟩
      · obtain ⟨w2,z2⟩:=I.cell y c' e
        exact ⟨w2,z2.sameBut hs hcc⟩
    · obtain ⟨e,n,ne,nf,d⟩:=I.pin p hp
      refine ⟨(hs.2 p.1 ?_).trans e,n,ne,nf,d⟩
      intro q
      rw [q,hoc] at e
      have q':oc=p.2:=Option.some.inj e
      exact d w' (by rw [←q'];exact hocd)
theorem za3 {M:Model} {A:Around} {E:Value→Shared→Prop} {i:Nat} {x:Str} {v:V} {u:Value} {Q:Unit→Shared→Prop} (I:Inv X pins σ H s) (hN:X.N.Nodup) (hi:X.N[i]?=some x) (hx:Loc X.env.scope x) (r:RelV v u)
    (h:∀s',Inv X pins (σ.set i (some v)) H s'→Q () s') (hf:X.fn x=true∨X.env.scope.names.lookup x=some .local:=by first|exact .inl rfl|exact .inr rfl|assumption):wpAny M A (storeName X.env x u) Q E s :=
  zeK I hN hi hx r (fun s' I' _=>h s' I') hf
theorem Inv.call' {s':Shared} {ch:List Addr} (I:Inv X pins σ H s) (ho:s'.os=s.os) (u:Un (frs X.stack) ch H H' s.heap s'.heap) (hok:HOk X.prog X.w H' s'.heap) (hg:AllBare s'.gens)
    (hch:∀b∈ch,(b∈X.ex∨X.s₀.heap.objs.size≤b)∧b≠X.env.locals∧(∀x c,X.env.cells.lookup x=some c→c≠b)∧∀p∈X.pn++pins,p.1≠b):Inv X pins σ H' s':=by
  obtain ⟨h',g',d',t',o'⟩:=s'
  have e:o'=s.os:=ho
  subst e
  exact I.call (g':=g') (t':=t') (d':=d') u hok hg hch
end
noncomputable abbrev XK:=Value→Option Addr→Hp→Prop
noncomputable abbrev St:=List (Option V)
noncomputable abbrev VK:=V→Hp→Prop
noncomputable abbrev TE:=St→Hp→VK→Prop
noncomputable abbrev TT:=St→Hp→(Bool→Hp→Prop)→Prop
noncomputable abbrev TA:=St→Hp→(List V→Hp→Prop)→Prop
structure Ends where
  nx:St→Hp→Prop
  rt:VK
  bk:St→Hp→Prop:=fun _ _=>False
  ct:St→Hp→Prop:=fun _ _=>False
noncomputable abbrev TS:=Ends→St→Hp→Prop
noncomputable def EP (X:Cx) (pins:List (Addr×Obj)) (σ:St) (Q:VK) (u:Value) (s':Shared):Prop:=∃v H',Inv X pins σ H' s'∧RelV v u∧Q v H'
noncomputable def TP (X:Cx) (pins:List (Addr×Obj)) (σ:St) (Q:Bool→Hp→Prop) (b:Bool) (s':Shared):Prop:=∃H',Inv X pins σ H' s'∧Q b H'
noncomputable def AP (X:Cx) (pins:List (Addr×Obj)) (σ:St) (Q:List V→Hp→Prop) (us:List Value) (s':Shared):Prop:=∃vs H',Inv X pins σ H' s'∧Vals vs us∧Q vs H'
noncomputable def SP (X:Cx) (pins:List (Addr×Obj)) (D:Ends) (f:Flow) (s':Shared):Prop :=
  match f with
  | .next=>∃σ' H',Inv X pins σ' H' s'∧D.nx σ' H'
  | .brk=>∃σ' H',Inv X pins σ' H' s'∧D.bk σ' H'
  | .cont=>∃σ' H',Inv X pins σ' H' s'∧D.ct σ' H'
  | .ret u=>∃v σ' H',Inv X pins σ' H' s'∧RelV v u∧D.rt v H'
noncomputable def PE (X:Cx) (e:Expr) (t:TE):Prop :=
  ∀(pins:List (Addr×Obj)) (s:Shared) (σ:St) (H:Hp) (Q:VK),Inv X pins σ H s→t σ H Q→wpAny (model X.prog X.w) X.A (eval e X.env) (EP X pins σ Q) X.xe s
noncomputable def PT (X:Cx) (e:Expr) (t:TT):Prop :=
  ∀(pins:List (Addr×Obj)) (s:Shared) (σ:St) (H:Hp) (Q:Bool→Hp→Prop),Inv X pins σ H s→t σ H Q→wpAny (model X.prog X.w) X.A (isTrue e X.env (eval e X.env)) (TP X pins σ Q) X.xe s
noncomputable def PW (X:Cx) (e:Expr) (t:TT):Prop :=
  ∀(whole:Sem Value) (pins:List (Addr×Obj)) (s:Shared) (σ:St) (H:Hp) (Q:Bool→Hp→Prop),Inv X pins σ H s→t σ H Q→wpAny (model X.prog X.w) X.A (isTrue e X.env whole) (TP X pins σ Q) X.xe s
theorem PW.pt {X:Cx} {e:Expr} {t:TT} (h:PW X e t):PT X e t:=h _
noncomputable def PA (X:Cx) (es:List Expr) (t:TA):Prop :=
  ∀(pos:Pos) (pins:List (Addr×Obj)) (s:Shared) (σ:St) (H:Hp) (Q:List V→Hp→Prop),Inv X pins σ H s→t σ H Q→wpAny (model X.prog X.w) X.A (spliced (backTo pos (starEach es X.env))) (AP X pins σ Q) X.xe s
noncomputable def PS (X:Cx) (st:Stmt) (t:TS):Prop :=
  ∀(pins:List (Addr×Obj)) (s:Shared) (σ:St) (H:Hp) (D:Ends),Inv X pins σ H s→t D σ H→wpAny (model X.prog X.w) X.A (exec st X.env) (SP X pins D) X.xe s
noncomputable def PSs (X:Cx) (st:List Stmt) (t:TS):Prop :=
  ∀(pins:List (Addr×Obj)) (s:Shared) (σ:St) (H:Hp) (D:Ends),Inv X pins σ H s→t D σ H→wpAny (model X.prog X.w) X.A (execs st X.env) (SP X pins D) X.xe s
theorem thn {α:Type} {t:Sem α} {Q Q':α→Shared→Prop} {M:Model} {A:Around} {E:Value→Shared→Prop} {s:Shared} (h:wpAny M A t Q E s) (hQ:∀a s,Q a s→Q' a s):wpAny M A t Q' E s:=wpAny_mono h hQ fun _ _ x=>x
end L2
namespace L2
open PySem PySem.Spec PyProof.Rows
section
variable {X:Cx}
theorem bin {a b:Expr} {ta tb:TE} (ha:PE X a ta) (hb:PE X b tb) {pins:List (Addr×Obj)} {s:Shared} {σ:St} {H:Hp} {R:V→V→Hp→Prop} (I:Inv X pins σ H s) (h:ta σ H fun x H1=>tb σ H1 fun y H2=>R x y H2)
    {α:Type} {Q:α→Shared→Prop} {f:Value→Value→Sem α}
    (hf:∀v u s2 x y H2,Inv X pins σ H2 s2→RelV x v→RelV y u→R x y H2→wpAny (model X.prog X.w) X.A (f v u) Q X.xe s2) :
    wpAny (model X.prog X.w) X.A (eval a X.env) (fun v s₁=>wpAny (model X.prog X.w) X.A (eval b X.env) (fun u s₂=>wpAny (model X.prog X.w) X.A (f v u) Q X.xe s₂) X.xe s₁) X.xe s:=by
  refine thn (ha pins s σ H _ I h) fun v s1 ⟨x,H1,I1,r1,q1⟩=>?_
  refine thn (hb pins s1 σ H1 _ I1 q1) fun u s2 ⟨y,H2,I2,r2,q2⟩=>?_
  exact hf v u s2 x y H2 I2 r1 r2 q2
inductive GVar (i:Nat) (σ:St) (H:Hp) (Q:VK):Prop
  | mk (v:V) (h:σ[i]?=some (some v)) (q:Q v H):GVar i σ H Q
noncomputable def tVar (i:Nat):TE:=fun σ H Q=>GVar i σ H Q
noncomputable def tC (v:V):TE:=fun _ H Q=>Q v H
theorem zgT {i:Nat} {x:Str} {pos:Pos} (hN:X.N[i]?=some x) (hv:Vis X.env.scope x) (hd:(x==("__debug__":Str))=false:=by decide) (hcd:(x==("__classdict__":Str))=false:=by decide):PE X (.Name x pos) (tVar i):=by
  intro pins s σ H Q I h
  obtain ⟨v,e,h⟩:=h
  obtain ⟨m,hn,hl⟩:=I.loc
  obtain ⟨u,r,l⟩:=hl i x v hN e hv
  have fin:EP X pins σ Q u s:=⟨v,H,I,r,h⟩
  rcases l with ⟨hk,hm⟩ | ⟨hk,c,hc,hcell⟩
  · exact wpAny_Name (wpAny_loadName_local I.ok.kind hk hn hm fin) hd
  · rcases hk with hk|hk
    · exact wpAny_Name (wpAny_loadName_cell I.ok.kind hk hc hcell fin) hd
    · exact wpAny_Name (wpAny_loadName_free I.ok.kind hk hc hcell fin hcd) hd
theorem yab {i j pos}:PE X (.Constant (.int i) j pos) (tC (.int i)):=fun _ _ _ H _ I h=>wpAny_Constant_int ⟨.int i,H,I.tok _,⟨_,rfl⟩,h⟩
theorem zey {b j pos}:PE X (.Constant (.bool b) j pos) (tC (.bl b)):=fun _ _ _ H _ I h=>Constant_bool ⟨.bl b,H,I,rfl,h⟩
theorem zax {x j pos}:PE X (.Constant (.str x) j pos) (tC (.str x)):=fun _ _ _ H _ I h=>Calls.Constant_str ⟨.str x,H,I.tok _,⟨_,rfl⟩,h⟩
noncomputable def Gl (X:Cx) (x:Str):Prop:=X.env.kindOf x=some .globalImplicit
theorem zgy {E:Value→Shared→Prop} {pins:List (Addr×Obj)} {s:Shared} {σ:St} {H:Hp} {x:Str} {u:Value} {pos:Pos} {Q:Value→Shared→Prop} (I:Inv X pins σ H s) (hg:Gl X x) (hm:X.mg x=some u) (h:Q u s)
    (hd:(x==("__debug__":Str))=false:=by decide):wpAny (model X.prog X.w) X.A (eval (.Name x pos) X.env) Q E s :=
  Calls.Name_function_global I.ok.kind hg (Calls.loadGlobal_global (by rw [I.ok.glob];exact I.mod.glob.keeps I.bk) hm h) hd
theorem zbG {E:Value→Shared→Prop} {pins:List (Addr×Obj)} {s:Shared} {σ:St} {H:Hp} {x:Str} {u:Value} {pos:Pos} {Q:Value→Shared→Prop} (I:Inv X pins σ H s) (hg:Gl X x) (hm:X.mg x=none) (hv:bootBuiltins x=some u) (h:Q u s)
    (hn:x≠"__name__":=by decide) (hd:(x==("__debug__":Str))=false:=by decide):wpAny (model X.prog X.w) X.A (eval (.Name x pos) X.env) Q E s:=by
  obtain ⟨mb,h1,h2⟩:=I.mod.blt
  exact Calls.Name_function_global I.ok.kind hg (Calls.loadGlobal_builtin (by rw [I.ok.glob];exact I.mod.glob.keeps I.bk) hm (by rw [I.ok.blt];exact h1.keeps I.bk) ((h2 x hn).trans hv) h) hd
noncomputable def t2I (ta tb:TE) (k:Int→Int→Hp→Prop):St→Hp→Prop:=fun σ H=>ta σ H fun x H1=>tb σ H1 fun y H2=>∃i j,x = .int i∧y = .int j∧k i j H2
variable {a b:Expr} {ta tb:TE} {pos:Pos}
noncomputable def PC (X:Cx) (op:CmpOp) (a b:Expr) (t:TE):Prop :=
  ∀(pins:List (Addr×Obj)) (s:Shared) (σ:St) (H:Hp) (Q:VK),Inv X pins σ H s→t σ H Q→
    wpAny (model X.prog X.w) X.A (eval a X.env) (fun v s₁=>wpAny (model X.prog X.w) X.A (eval b X.env) (fun u s₂=>wpAny (model X.prog X.w) X.A (compareOp op v u) (EP X pins σ Q) X.xe s₂) X.xe s₁) X.xe s
noncomputable def tCmp (p:Int→Int→Bool) (ta tb:TE):TE:=fun σ H Q=>t2I ta tb (fun i j H2=>Q (.bl (p i j)) H2) σ H
noncomputable abbrev tLt:TE→TE→TE:=tCmp fun i j=>decide (i<j)
noncomputable abbrev tLe:TE→TE→TE:=tCmp fun i j=>decide (i≤j)
noncomputable abbrev tGt:TE→TE→TE:=tCmp fun i j=>decide (j<i)
noncomputable abbrev tGe:TE→TE→TE:=tCmp fun i j=>decide (j≤i)
noncomputable abbrev tEqI:TE→TE→TE:=tCmp fun i j=>decide (i=j)
noncomputable abbrev tNeI:TE→TE→TE:=tCmp fun i j=>!decide (i=j)
noncomputable def tB (t:TE):TT:=fun σ H Q=>t σ H fun x H1=>∃c,x = .bl c∧Q c H1
theorem pt_cmp {op:CmpOp} {t:TE} (h:PC X op a b t) (h1:behindInMarks op b=false:=by first|exact nobehind _ (by decide) (by decide)|rfl):PT X (.Compare a [op] [b] pos) (tB t):=by
  intro pins s σ H Q I hw
  refine wpAny_isTrue_Compare1 (thn (h pins s σ H _ I hw) fun v s1 h1=>thn h1 fun u s2 h2=>thn h2 fun c s3 ⟨x,H1,I1,r1,q1⟩=>?_) h1
  obtain ⟨d,rfl,q⟩:=q1
  cases r1
  exact wpAny_truthy_bool ⟨H1,I1,q⟩
theorem zf3 {e:Expr} {t:TE} (h:PE X e t) (he:∀whole,isTrue e X.env whole=(do let v ←whole;standAt e.pos;holding [v] (truthy v)):=by intro _;rfl):PT X e (tB t):=by
  intro pins s σ H Q I hw
  refine isTrue_plain (thn (h pins s σ H _ I hw) fun v s1 ⟨x,H1,I1,r1,q1⟩=>?_) (he _)
  obtain ⟨d,rfl,q⟩:=q1
  cases r1
  exact wpAny_truthy_bool ⟨H1,I1,q⟩
variable {tA tB':TT} {rest:List Expr}
noncomputable def tAnd (t u:TT):TT:=fun σ H Q=>t σ H fun c H1=>if c=true then u σ H1 Q else Q false H1
noncomputable def tOr (t u:TT):TT:=fun σ H Q=>t σ H fun c H1=>if c=true then Q true H1 else u σ H1 Q
noncomputable def tNot (t:TT):TT:=fun σ H Q=>t σ H fun c H1=>Q (!c) H1
theorem ydZ (ha:PT X a tA):PW X (.BoolOp .And [a] pos) tA:=by
  intro wh pins s σ H Q I h
  refine isTrue_and (thn (ha pins s σ H Q I h) fun c s1 e=>?_)
  cases c with
  | true=>exact isTrue_and_nil e
  | false=>exact e
theorem zfq (ha:PT X a tA):PW X (.BoolOp .Or [a] pos) tA:=by
  intro wh pins s σ H Q I h
  refine isTrue_or (thn (ha pins s σ H Q I h) fun c s1 e=>?_)
  cases c with
  | false=>exact isTrue_or_nil e
  | true=>exact e
theorem zfk (ha:PT X a tA) (hb:PW X (.BoolOp .And (b::rest) pos) tB'):PW X (.BoolOp .And (a::b::rest) pos) (tAnd tA tB'):=by
  intro wh pins s σ H Q I h
  refine isTrue_and (thn (ha pins s σ H _ I h) fun c s1 ⟨H1,I1,q1⟩=>?_)
  cases c with
  | true=>exact hb wh pins s1 σ H1 Q I1 q1
  | false=>exact ⟨H1,I1,q1⟩
theorem zgB (ha:PT X a tA) (hb:PW X (.BoolOp .Or (b::rest) pos) tB'):PW X (.BoolOp .Or (a::b::rest) pos) (tOr tA tB'):=by
  intro wh pins s σ H Q I h
  refine isTrue_or (thn (ha pins s σ H _ I h) fun c s1 ⟨H1,I1,q1⟩=>?_)
  cases c with
  | true=>exact ⟨H1,I1,q1⟩
  | false=>exact hb wh pins s1 σ H1 Q I1 q1
theorem yg2 (ha:PT X a tA):PT X (.UnaryOp .Not a pos) (tNot tA):=by
  intro pins s σ H Q I h
  exact isTrue_not (ha pins s σ H (fun c H1=>Q (!c) H1) I h)
noncomputable def tIf (t:TT) (ta tb:TE):TE:=fun σ H Q=>t σ H fun c H1=>if c=true then ta σ H1 Q else tb σ H1 Q
theorem zfC {c:Expr} (hc:PT X c tA) (ha:PE X a ta) (hb:PE X b tb):PE X (.IfExp c a b pos) (tIf tA ta tb):=by
  intro pins s σ H Q I h
  refine wpAny_IfExp (thn (hc pins s σ H _ I h) fun d s1 ⟨H1,I1,q1⟩=>?_)
  cases d with
  | true=>exact ha pins s1 σ H1 Q I1 q1
  | false=>exact hb pins s1 σ H1 Q I1 q1
end
end L2
namespace L2
open PySem PySem.Spec PyProof.Rows
noncomputable def SqL (K:PySem.W.Frag) (H:Hp) (a:Addr) (xs:List V):Prop :=
  Rd H a (.lst xs)∨
    ∃(o:Obj) (its:Array Value) (n:Nat),K.lookup a=some o∧o.cls = .type "list"∧o.dict=none∧o.data = .seq its n∧its.size≤sizeLine∧Vals xs its.toList
noncomputable def SqT (K:PySem.W.Frag) (H:Hp) (a:Addr) (xs:List V):Prop :=
  Rd H a (.tup xs)∨
    ∃(o:Obj) (its:Array Value) (n:Nat),K.lookup a=some o∧o.cls = .type "tuple"∧o.data = .seq its n∧its.size≤sizeLine∧Vals xs its.toList
noncomputable def absV:Value→Option V
  | .none=>some .non
  | .bool b=>some (.bl b)
  | .int i _=>some (.int i)
  | .str x _=>some (.str x)
  | .bytes b _=>some (.byt b)
  | .float b _=>some (.flt b)
  | .ref a=>some (.ref a)
  | .type n=>some (.ty n)
  | _=>none
theorem RelV.abs {x:V} {u:Value} (r:RelV x u):absV u=some x:=by
  cases x with
  | non=>cases r;rfl
  | bl _=>cases r;rfl
  | int _=>obtain ⟨t,rfl⟩:=r;rfl
  | str _=>obtain ⟨t,rfl⟩:=r;rfl
  | byt _=>obtain ⟨t,rfl⟩:=r;rfl
  | flt _=>obtain ⟨t,rfl⟩:=r;rfl
  | ref _=>cases r;rfl
  | ty _=>cases r;rfl
theorem RelV.inj {x y:V} {u:Value} (r:RelV x u) (q:RelV y u):x=y:=Option.some.inj (r.abs.symm.trans q.abs)
theorem Vals.inj:∀ {xs ys:List V} {us:List Value},Vals xs us→Vals ys us→xs=ys
  | _,_,_,.nil,.nil=>rfl
  | _,_,_,.cons r t,.cons r' t'=>by rw [r.inj r',Vals.inj t t']
section
variable {X:Cx} {pins:List (Addr×Obj)} {σ:St} {H:Hp} {s:Shared} {a:Addr} {xs ys:List V}
theorem SqL.of {K:PySem.W.Frag} (h:H a=some (.lst xs)):SqL K H a xs:=.inl (.inl h)
theorem SqT.of {K:PySem.W.Frag} (h:H a=some (.tup xs)):SqT K H a xs:=.inl (.inl h)
theorem Inv.list (I:Inv X pins σ H s) (h:SqL X.K H a xs):∃its:List Value,Vals xs its∧PlainL s.heap a its.toArray∧xs.length≤sizeLine:=by
  rcases h with h | ⟨o,its,n,hk,hc,hd,hs,hz,r⟩
  · obtain ⟨z,its,n,r,e⟩:=h.ok I.hok
    exact ⟨its,r,⟨_,n,e,rfl,rfl,rfl⟩,z⟩
  · refine ⟨its.toList,r,⟨o,n,I.kIn a o hk,hc,hd,by simpa using hs⟩,?_⟩
    have e:=r.length
    simp only [Array.length_toList] at e
    lia
theorem Inv.tuple (I:Inv X pins σ H s) (h:SqT X.K H a xs):∃its:List Value,Vals xs its∧IsTup s.heap a its.toArray∧xs.length≤sizeLine:=by
  rcases h with h | ⟨o,its,n,hk,hc,hs,hz,r⟩
  · obtain ⟨z,its,r,p⟩:=h.ok I.hok
    exact ⟨its,r,p,z⟩
  · refine ⟨its.toList,r,⟨o,I.kIn a o hk,hc,n,by simpa using hs⟩,?_⟩
    have e:=r.length
    simp only [Array.length_toList] at e
    lia
theorem Inv.list_inj (I:Inv X pins σ H s) (h:SqL X.K H a xs) (h':SqL X.K H a ys):xs=ys:=by
  obtain ⟨its,r,⟨o,n,e,_,_,d⟩,_⟩:=I.list h
  obtain ⟨its',r',⟨o',n',e',_,_,d'⟩,_⟩:=I.list h'
  rw [e] at e';cases e'
  rw [d] at d'
  injection d' with d1 _
  have:its=its':=by simpa using congrArg Array.toList d1
  subst this
  exact r.inj r'
theorem Inv.tuple_inj (I:Inv X pins σ H s) (h:SqT X.K H a xs) (h':SqT X.K H a ys):xs=ys:=by
  obtain ⟨its,r,⟨o,e,_,n,d⟩,_⟩:=I.tuple h
  obtain ⟨its',r',⟨o',e',_,n',d'⟩,_⟩:=I.tuple h'
  rw [e] at e';cases e'
  rw [d] at d'
  injection d' with d1 _
  have:its=its':=by simpa using congrArg Array.toList d1
  subst this
  exact r.inj r'
end
noncomputable abbrev Cx.wish (X:Cx) (E:Value→Shared→Prop):Cx:={ X with xe:=E }
noncomputable abbrev Cx.nox (X:Cx):Cx:=X.wish fun _ _=>False
theorem Cx.Ok.wish {X:Cx} (ok:X.Ok) (E:Value→Shared→Prop):(X.wish E).Ok :=
  ⟨ok.mod,ok.kind,ok.glob,ok.blt,ok.above,ok.inj,ok.has,ok.cab,ok.hd,ok.frames,ok.stk,ok.exf,ok.bs,ok.bsz,ok.noex,ok.exfs,ok.funs,ok.frf⟩
theorem Cx.Ok.unwish {X:Cx} {E:Value→Shared→Prop} (ok:(X.wish E).Ok):X.Ok :=
  ⟨ok.mod,ok.kind,ok.glob,ok.blt,ok.above,ok.inj,ok.has,ok.cab,ok.hd,ok.frames,ok.stk,ok.exf,ok.bs,ok.bsz,ok.noex,ok.exfs,ok.funs,ok.frf⟩
section
variable {X:Cx} {pins:List (Addr×Obj)} {σ:St} {H:Hp} {s:Shared} {E:Value→Shared→Prop}
theorem Inv.wish (I:Inv X pins σ H s) (E:Value→Shared→Prop):Inv (X.wish E) pins σ H s:=⟨I.ok.wish E,I.os,I.bare,I.base,I.loc,I.cell,I.free,I.freeC,I.pin,I.hok,I.len⟩
theorem Inv.unwish (I:Inv (X.wish E) pins σ H s):Inv X pins σ H s:=⟨I.ok.unwish,I.os,I.bare,I.base,I.loc,I.cell,I.free,I.freeC,I.pin,I.hok,I.len⟩
theorem SP.unwish {D:Ends} {f:Flow} {s':Shared} (h:SP (X.wish E) pins D f s'):SP X pins D f s':=by
  cases f with
  | next=>obtain ⟨σ',H',I,q⟩:=h;exact ⟨σ',H',I.unwish,q⟩
  | brk=>obtain ⟨σ',H',I,q⟩:=h;exact ⟨σ',H',I.unwish,q⟩
  | cont=>obtain ⟨σ',H',I,q⟩:=h;exact ⟨σ',H',I.unwish,q⟩
  | ret u=>obtain ⟨v,σ',H',I,r,q⟩:=h;exact ⟨v,σ',H',I.unwish,r,q⟩
theorem PSs.nox {st:List Stmt} {t:TS} (h:PSs X.nox st t):PSs X st t:=fun pins s σ H D I hw =>
  wpAny_mono (h pins s σ H D (I.wish _) hw) (fun _ _ q=>q.unwish) fun _ _ z=>False.elim z
end
section
variable {X:Cx} {st:Stmt} {rest:List Stmt} {t u:TS} {e:Expr} {te:TE} {pos:Pos}
noncomputable def zhp:TS:=fun D σ H=>D.nx σ H
noncomputable def tSeq (t u:TS):TS:=fun D σ H=>t { D with nx:=u D } σ H
theorem zaC:PSs X [] zhp:=fun _ _ σ H _ I h=>wpAny_execs_nil ⟨σ,H,I,h⟩
theorem yfZ (h1:PS X st t) (h2:PSs X rest u):PSs X (st::rest) (tSeq t u):=by
  intro pins s σ H D I h
  refine wpAny_execs_cons (thn (h1 pins s σ H { D with nx:=u D } I h) fun f s1 q=>?_)
  cases f with
  | next =>
    obtain ⟨σ',H',I',q⟩:=q
    exact h2 pins s1 σ' H' D I' q
  | ret v=>exact q
  | brk=>exact q
  | cont=>exact q
theorem ygk (h1:PS X st t):PSs X [st] t:=by
  intro pins s σ H D I h
  refine wpAny_execs_cons (thn (h1 pins s σ H D I h) fun f s1 q=>?_)
  cases f with
  | next=>exact wpAny_execs_nil q
  | ret v=>exact q
  | brk=>exact q
  | cont=>exact q
theorem Inv.quiet {pins:List (Addr×Obj)} {σ:St} {H:Hp} {s:Shared} (I:Inv X pins σ H s):interactive X.env=false:=by simp [interactive,I.ok.kind]
noncomputable def zgU (te:TE):TS:=fun D σ H=>te σ H fun _ H1=>D.nx σ H1
theorem zbW (he:PE X e te) (hs:swapsWith e none pos.line X.env=pure false:=by rfl):PS X (.Expr e pos) (zgU te):=by
  intro pins s σ H D I h
  exact wpAny_Expr_any (thn (he pins s σ H _ I h) fun v s1 ⟨x,H1,I1,r1,q1⟩=>⟨σ,H1,I1,q1⟩) I.quiet hs
noncomputable def tRet (te:TE):TS:=fun D σ H=>te σ H D.rt
theorem ygY (he:PE X e te):PS X (.Return (some e) pos) (tRet te):=by
  intro pins s σ H D I h
  exact wpAny_Return_some (thn (he pins s σ H _ I h) fun v s1 ⟨x,H1,I1,r1,q1⟩=>⟨x,σ,H1,I1,r1,q1⟩)
noncomputable def tIfS (c:TT) (t u:TS):TS:=fun D σ H=>c σ H fun b H1=>if b=true then t D σ H1 else u D σ H1
theorem yhj {c:Expr} {a b:List Stmt} {tc:TT} (hc:PT X c tc) (ha:PSs X a t) (hb:PSs X b u):PS X (.If c a b pos) (tIfS tc t u):=by
  intro pins s σ H D I h
  refine wpAny_If (thn (hc pins s σ H _ I h) fun d s1 ⟨H1,I1,q1⟩=>?_)
  cases d with
  | true=>exact ha pins s1 σ H1 D I1 q1
  | false=>exact hb pins s1 σ H1 D I1 q1
end
noncomputable abbrev TG:=V→St→Hp→(St→Hp→Prop)→Prop
noncomputable abbrev TGs:=List V→St→Hp→(St→Hp→Prop)→Prop
noncomputable def PG (X:Cx) (target:Expr) (t:TG):Prop :=
  ∀(pins:List (Addr×Obj)) (s:Shared) (σ:St) (H:Hp) (v:V) (u:Value) (Q:St→Hp→Prop),Inv X pins σ H s→RelV v u→t v σ H Q→
    wpAny (model X.prog X.w) X.A (assign target X.env u) (fun _ s'=>∃σ' H',Inv X pins σ' H' s'∧Q σ' H') X.xe s
noncomputable def PGs (X:Cx) (ts:List Expr) (t:TGs):Prop :=
  ∀(pins:List (Addr×Obj)) (s:Shared) (σ:St) (H:Hp) (vs:List V) (us:List Value) (Q:St→Hp→Prop),Inv X pins σ H s→Vals vs us→t vs σ H Q→
    wpAny (model X.prog X.w) X.A (assignInOrder ((assignEach ts X.env).map (·.2)) us) (fun _ s'=>∃σ' H',Inv X pins σ' H' s'∧Q σ' H') X.xe s
noncomputable abbrev TSet:=V→V→V→Hp→(Hp→Prop)→Prop
noncomputable def PSet (X:Cx) (t:TSet):Prop :=
  ∀(pins:List (Addr×Obj)) (s:Shared) (σ:St) (H:Hp) (o i v:V) (ov iv u:Value) (Q:Hp→Prop),Inv X pins σ H s→RelV o ov→RelV i iv→RelV v u→t o i v H Q→
    wpAny (model X.prog X.w) X.A (setItem ov iv u) (fun _ s'=>∃H',Inv X pins σ H' s'∧Q H') X.xe s
noncomputable abbrev TIp:=V→V→Hp→VK→Prop
section
variable {X:Cx} {pos:Pos}
noncomputable def yan (i:Nat):TG:=fun v σ H Q=>Q (σ.set i (some v)) H
theorem yeP {i:Nat} {x:Str} (hN:X.N.Nodup) (hi:X.N[i]?=some x) (hx:Loc X.env.scope x) (hf:X.fn x=true∨X.env.scope.names.lookup x=some .local:=by first|exact .inl rfl|exact .inr rfl|assumption):PG X (.Name x pos) (yan i):=by
  intro pins s σ H v u Q I r h
  exact wpAny_assign_Name (za3 I hN hi hx r (fun s' I'=>⟨_,H,I',h⟩) hf)
noncomputable def gNil:TGs:=fun vs σ H Q=>vs=[]∧Q σ H
inductive ygZ (t:TG) (u:TGs) (vs:List V) (σ:St) (H:Hp) (Q:St→Hp→Prop):Prop
  | mk (v:V) (r:List V) (e:vs=v::r) (q:t v σ H fun σ' H'=>u r σ' H' Q):ygZ t u vs σ H Q
noncomputable def yhw (t:TG) (u:TGs):TGs:=fun vs σ H Q=>ygZ t u vs σ H Q
theorem yax:PGs X [] gNil:=by
  intro pins s σ H vs us Q I r h
  obtain ⟨e,h⟩:=h
  subst e
  cases r
  exact assignInOrder_nil ⟨σ,H,I,h⟩
theorem yfL {e:Expr} {es:List Expr} {t:TG} {u:TGs} (h1:PG X e t) (h2:PGs X es u)
    (hs:(assignEach (e::es) X.env).map (·.2)=assign e X.env::(assignEach es X.env).map (·.2):=by rfl):PGs X (e::es) (yhw t u):=by
  intro pins s σ H vs us Q I r h
  obtain ⟨v,vr,e1,h⟩:=h
  subst e1
  cases r with
  | cons r rr =>
    rw [hs]
    refine assignInOrder_cons (thn (h1 pins s σ H _ _ _ I r h) fun _ s1 ⟨σ1,H1,I1,q1⟩=>?_)
    exact h2 pins s1 σ1 H1 _ _ Q I1 rr q1
inductive GTup (K:PySem.W.Frag) (n:Nat) (t:TGs) (v:V) (σ:St) (H:Hp) (Q:St→Hp→Prop):Prop
  | mk (a:Addr) (xs:List V) (e:v = .ref a) (h:SqT K H a xs) (l:xs.length=n) (q:t xs σ H Q):GTup K n t v σ H Q
noncomputable def gTup (K:PySem.W.Frag) (n:Nat) (t:TGs):TG:=fun v σ H Q=>GTup K n t v σ H Q
theorem zck {es:List Expr} {k:Nat} {t:TGs} {n:Nat} (hc:X.calm=true) (h:PGs X es t)
    (hn:(assignEach es X.env).length=n:=by rfl) (hst:(assignEach es X.env).findIdx? (·.1)=none:=by rfl):PG X (.Tuple es k pos) (gTup X.K n t):=by
  intro pins s σ H v u Q I r hw
  obtain ⟨a,xs,e1,hq,hl,hw⟩:=hw
  subst e1
  cases r
  obtain ⟨its,rv,ht,hz⟩:=I.tuple hq
  refine assign_Tuple_tuple (I.ok.hd hc) ht (by simp [hn,←hl,rv.length]) hst fun h' hx=>?_
  have I1:Inv X pins σ H { s with heap:=h' }:=I.kept (t':=s.toks) fun b o e=>hx b o (Nat.ne_of_lt (Heap.lt_size e)) e
  exact h pins _ σ H xs _ Q I1 (by simpa using rv) hw
noncomputable def gSub (to ti:TE) (t:TSet):TG:=fun v σ H Q=>to σ H fun o H1=>ti σ H1 fun i H2=>t o i v H2 fun H3=>Q σ H3
theorem ycH {o i:Expr} {to ti:TE} {t:TSet} (ho:PE X o to) (hi:PE X i ti) (hs:PSet X t)
    (ha:∀v,assign (.Subscript o i pos) X.env v=(do
      let ov ←holding [v] (eval o X.env)
      let iv ←holding [v,ov] (eval i X.env)
      standAt pos
      holding [v,ov,iv] (setItem ov iv v)
      release [v,ov,iv] []):=by intro _;rfl):PG X (.Subscript o i pos) (gSub to ti t):=by
  intro pins s σ H v u Q I r h
  rw [ha]
  refine wpAny_bind (wpAny_holding (thn (ho pins s σ H _ I h) fun ov s1 ⟨x,H1,I1,r1,q1⟩=>?_))
  refine wpAny_bind (wpAny_holding (thn (hi pins s1 σ H1 _ I1 q1) fun iv s2 ⟨y,H2,I2,r2,q2⟩=>?_))
  refine wpAny_bind (wpAny_standAt (wpAny_bind (wpAny_holding (thn (hs pins s2 σ H2 x y v ov iv u _ I2 r1 r2 r q2) fun _ s3 ⟨H3,I3,q3⟩=>?_))))
  exact wpAny_release ⟨σ,H3,I3,q3⟩
noncomputable def tAsg (te:TE) (g:TG):TS:=fun D σ H=>te σ H fun x H1=>g x σ H1 D.nx
theorem zco {tg e:Expr} {te:TE} {g:TG} (he:PE X e te) (hg:PG X tg g) (hs:swapsWithSole [tg] e pos.line X.env=pure false:=by rfl) (hw:swappedStores [tg] e X.env=pure none:=by rfl)
    (h1:(assignEach [tg] X.env).map (·.2)=[assign tg X.env]:=by rfl):PS X (.Assign [tg] e pos) (tAsg te g):=by
  intro pins s σ H D I h
  refine wpAny_Assign_stores (thn (he pins s σ H _ I h) fun v s1 ⟨x,H1,I1,r1,q1⟩=>?_) hs hw
  rw [h1]
  exact thn (hg pins s1 σ H1 x v _ I1 r1 q1) fun _ s2 q=>q
theorem yg8 {i:Nat} {x:Str} {e:Expr} {te:TE} {pos':Pos} (hN:X.N.Nodup) (hi:X.N[i]?=some x) (hx:Loc X.env.scope x) (he:PE X e te) (hs:swapsWith e (some (.Name x pos')) pos.line X.env=pure false:=by rfl) (hf:X.fn x=true∨X.env.scope.names.lookup x=some .local:=by first|exact .inl rfl|exact .inr rfl|assumption) :
    PS X (.Assign [.Name x pos'] e pos) (tAsg te (yan i)):=by
  intro pins s σ H D I h
  refine wpAny_Assign_Name (thn (he pins s σ H _ I h) fun v s1 ⟨y,H1,I1,r1,q1⟩=>?_) hs
  exact za3 I1 hN hi hx r1 (fun s2 I2=>⟨_,H1,I2,q1⟩) hf
inductive GPar (i j:Nat) (D:Ends) (vs:List V) (σ:St) (H:Hp):Prop
  | mk (v w:V) (e:vs=[v,w]) (q:D.nx ((σ.set i (some v)).set j (some w)) H):GPar i j D vs σ H
noncomputable def tPar (i j:Nat) (ta:TA):TS:=fun D σ H=>ta σ H fun vs H1=>GPar i j D vs σ H1
theorem zbP {i j:Nat} {x y:Str} {a b:Expr} {ta:TA} {px py pt:Pos} {kt k2 pt2} (hc:X.calm=true) (hN:X.N.Nodup) (hi:X.N[i]?=some x) (hj:X.N[j]?=some y) (hij:i≠j)
    (hx:X.env.scope.names.lookup x=some .local) (hy:X.env.scope.names.lookup y=some .local) (ha:PA X [a,b] ta)
    (hw:swappedStores [.Tuple [.Name x px,.Name y py] kt pt] (.Tuple [a,b] k2 pt2) X.env=pure (some [x,y]))
    (hs:swapsWithSole [.Tuple [.Name x px,.Name y py] kt pt] (.Tuple [a,b] k2 pt2) pos.line X.env=pure false:=by rfl) :
    PS X (.Assign [.Tuple [.Name x px,.Name y py] kt pt] (.Tuple [a,b] k2 pt2) pos) (tPar i j ta):=by
  intro pins s σ H D I h
  rw [exec_Assign_arm]
  refine wpAny_bind (wpAny_standAt ?_)
  rw [hs]
  refine wpAny_bind (wpAny_pure ?_)
  rw [if_neg (by decide)]
  refine wpAny_bind (Tuple_ (thn (ha _ pins s σ H _ I h) fun us s1 ⟨vs,H1,I1,r1,q1⟩=>?_))
  obtain ⟨v,w,e1,q1⟩:=q1
  subst e1
  obtain ⟨u1,u2,rfl,rv,rw'⟩:∃u1 u2,us=[u1,u2]∧RelV v u1∧RelV w u2:=by
    cases r1 with
    | cons p q =>
      cases q with
      | cons p' q' =>
        cases q'
        exact ⟨_,_,rfl,p,p'⟩
  refine wpAny_newObj_type ?_ (by show 2≤sizeLine;decide)
  have I2:Inv X pins σ H1 { s1 with heap:=s1.heap.push { cls:=.type "tuple",data:=.seq [u1,u2].toArray } }:=I1.kept (t':=s1.toks) fun b o e=>Heap.get?_push_of_some _ e
  rw [hw]
  refine wpAny_bind (wpAny_pure ?_)
  show wpAny (model X.prog X.w) X.A (do rule "assign.swapped-stores";let items ←unpackItems (.ref s1.heap.objs.size) 2 none;assignInOrder [fun v=>bindName X.env y v,fun v=>bindName X.env x v] items.reverse;pure Flow.next) _ _ _
  refine wpAny_bind (wpAny_rule (wpAny_bind (unpackItems_tuple (items:=#[u1,u2]) (I.ok.hd hc) (IsTup.new s1.heap _) fun h' hx'=>?_)))
  have I3:=I2.kept (h':=h') (t':=s1.toks) fun b o e=>hx' b o (Nat.ne_of_lt (Heap.lt_size e)) e
  show wpAny _ _ (assignInOrder [fun v=>bindName X.env y v,fun v=>bindName X.env x v] [u2,u1] >>= fun _=>pure Flow.next) _ _ _
  refine wpAny_bind (assignInOrder_cons (wpAny_bindName (za3 I3 hN hj (.inl hy) rw' (fun s2 I4=>?_) (.inr hy))))
  refine assignInOrder_cons (wpAny_bindName (za3 I4 hN hi (.inl hx) rv (fun s3 I5=>assignInOrder_nil (wpAny_pure ?_)) (.inr hx)))
  rw [List.set_comm _ _ (Ne.symm hij)] at I5
  exact ⟨_,H1,I5,q1⟩
end
section
variable {X:Cx} {pos:Pos}
noncomputable def zf7 (c:TT) (tb:TS):TS:=fun D σ H=>∃W:Nat→St→Hp→Prop,(∃m,W m σ H)∧∀m σ H,W m σ H→
  c σ H fun b H1=>if b=true then ∃N:St→Hp→Prop,(∀σ' H',N σ' H'→∃m',m'<m∧W m' σ' H')∧tb { D with nx:=N,ct:=N,bk:=D.nx } σ H1 else D.nx σ H1
theorem zbz {c:Expr} {body:List Stmt} {tc:TT} {tb:TS} (hp:PassesOwn (model X.prog X.w) X.A X.env X.xe) (hc:PT X c tc) (hb:PSs X body tb):PS X (.While c body [] pos) (zf7 tc tb):=by
  intro pins s σ H D I h
  obtain ⟨W,⟨m0,w0⟩,turn⟩:=h
  refine wpAny_While (codeAny_whileLoop (fun n s'=>∃σ' H',Inv X pins σ' H' s'∧W n σ' H') ?_ m0 ⟨σ,H,I,w0⟩)
  rintro n s1 ⟨σ1,H1,I1,w1⟩
  refine wpAny_passesOwn hp (thn (hc pins s1 σ1 H1 _ I1 (turn n σ1 H1 w1)) fun b s2 ⟨H2,I2,q2⟩=>?_)
  cases b with
  | true =>
    obtain ⟨N,hN,q2⟩:=q2
    rw [if_pos rfl]
    refine wpAny_passesOwn hp (thn (hb pins s2 σ1 H2 _ I2 q2) fun f s3 q3=>?_)
    cases f with
    | next =>
      obtain ⟨σ3,H3,I3,n3⟩:=q3
      obtain ⟨m',hm,w3⟩:=hN σ3 H3 n3
      exact ⟨m',hm,σ3,H3,I3,w3⟩
    | cont =>
      obtain ⟨σ3,H3,I3,n3⟩:=q3
      obtain ⟨m',hm,w3⟩:=hN σ3 H3 n3
      exact ⟨m',hm,σ3,H3,I3,w3⟩
    | brk=>exact q3
    | ret v=>exact q3
  | false =>
    rw [if_neg Bool.false_ne_true]
    exact wpAny_execs_nil ⟨σ1,H2,I2,q2⟩
end
structure It where
  go:Nat→Hp→Prop
  yld:Nat→Hp→V→Hp→Prop
  stop:Nat→Hp→Prop
noncomputable def FpOk (X:Cx) (pins:List (Addr×Obj)) (H:Hp) (b:Addr):Prop :=
  H b=none∧b≠X.env.locals∧b∉X.fs∧(b∈X.ex∨X.s₀.heap.objs.size≤b)∧(∀x c,X.env.cells.lookup x=some c→c≠b)∧∀p∈X.pn++pins,p.1≠b
theorem Inv.fpOk {X:Cx} {pins:List (Addr×Obj)} {σ:St} {H H':Hp} {s:Shared} {b:Addr} (I:Inv X pins σ H s) (hb:s.heap.objs.size≤b) (hn:H' b=none):FpOk X pins H' b:=by
  refine ⟨hn,Nat.ne_of_gt (Nat.lt_of_lt_of_le I.lt hb),I.nofs hb,.inr (Nat.le_trans I.sz hb),fun x c e z=>?_,fun p hp z=>?_⟩
  · obtain ⟨v,q⟩:=I.cell x c e
    exact absurd (Nat.lt_of_lt_of_le q.lt (by rw [z];exact hb)) (Nat.lt_irrefl _)
  · exact absurd (Nat.lt_of_lt_of_le (Heap.lt_size (I.pin p hp).1) (by rw [z];exact hb)) (Nat.lt_irrefl _)
structure Turn (P:Program) (w:World) (K:PySem.W.Frag) (tg:Expr) (J:It) (fp:List Addr) (it:Addr) (tn:Nat→Heap→Prop):Prop where
  mem:it∈fp
  obj:∀i h,tn i h→∀b∈fp,∃o,h.get? b=some o∧∀v,o.data≠.cell v
  keep:∀i h h',tn i h→(∀b∈fp,∀o,h.get? b=some o→h'.get? b=some o)→tn i h'
  item:∀(X:Cx),X.prog=P→X.w=w→X.K=K→X.calm=true→∀(i:Nat) (pins:List (Addr×Obj)) (s:Shared) (σ:St) (H:Hp) (E:Value→Shared→Prop),Inv X pins σ H s→(∀b∈fp,FpOk X pins H b)→tn i s.heap→J.go i H→
    wpAny (model P w) X.A (pyNext (.ref it)) (fun r s1=>∃u,r=some u∧
      wpAny (model P w) X.A (letOwnedTupleGo tg (.ref it) u) (fun _ s2=>∃x H',Inv X pins σ H' s2∧RelV x u∧J.yld i H x H'∧tn (i+1) s2.heap∧∀b∈fp,H' b=none) E s1) E s
  done:∀(X:Cx),X.prog=P→X.w=w→X.K=K→X.calm=true→∀(i:Nat) (pins:List (Addr×Obj)) (s:Shared) (σ:St) (H:Hp) (E:Value→Shared→Prop),Inv X pins σ H s→(∀b∈fp,FpOk X pins H b)→tn i s.heap→J.stop i H→
    wpAny (model P w) X.A (pyNext (.ref it)) (fun r s1=>r=none∧Inv X pins σ H s1) E s
  self:∀(A:Around) (i:Nat) (s:Shared) (Q:Value→Shared→Prop) (E:Value→Shared→Prop),tn i s.heap→Q (.ref it) s→wpAny (model P w) A (pyIter (.ref it)) Q E s
noncomputable abbrev TI:=St→Hp→(It→Hp→Prop)→Prop
noncomputable def PIE (X:Cx) (pins:List (Addr×Obj)) (σ:St) (tg:Expr) (R:It→Hp→Prop) (itv:Value) (s2:Shared):Prop :=
  ∃(it:Addr) (fp:List Addr) (tn:Nat→Heap→Prop) (J:It) (H':Hp),itv = .ref it∧Inv X pins σ H' s2∧Turn X.prog X.w X.K tg J fp it tn∧tn 0 s2.heap∧(∀b∈fp,FpOk X pins H' b)∧R J H'
noncomputable def PI (X:Cx) (tg iter:Expr) (wi:TI):Prop :=
  ∀(pins:List (Addr×Obj)) (s:Shared) (σ:St) (H:Hp) (R:It→Hp→Prop),Inv X pins σ H s→wi σ H R→
    wpAny (model X.prog X.w) X.A (eval iter X.env) (fun v s1=>wpAny (model X.prog X.w) X.A (pyIter v) (PIE X pins σ tg R) X.xe s1) X.xe s
theorem zfO {M:Model} {A:Around} {E:Value→Shared→Prop} {s:Shared} {tg:Expr} {it:Addr} {u:Value} {o:Obj} {n:String} {vs:Array Value} {Q:Unit→Shared→Prop} (ho:s.heap.get? it=some o) (hc:o.cls = .type n) (hd:o.data = .fields vs)
    (hn:["enumerate","zip","dict_itemiterator","dict_reverseitemiterator","odict_iterator","itertools.zip_longest","itertools.pairwise"].contains n=false) (hQ:Q () s):wpAny M A (letOwnedTupleGo tg (.ref it) u) Q E s:=by
  unfold letOwnedTupleGo
  cases tg <;> first
    | exact wpAny_pure hQ
    | (cases u <;> first
        | exact wpAny_pure hQ
        | (refine wpAny_bind (wpAny_load ho ?_)
           rw [hc,hd]
           show wpAny M A (if (["enumerate","zip","dict_itemiterator","dict_reverseitemiterator","odict_iterator","itertools.zip_longest","itertools.pairwise"].contains n&&vs[0]?==some (rawInt _))=true then _ else _) Q E s
           rw [if_neg (by intro h;rw [hn,Bool.false_and] at h;cases h)]
           exact wpAny_pure hQ))
noncomputable def Itl (K:PySem.W.Frag) (a:Addr):It :=
  ⟨fun i H=>∃xs x,SqL K H a xs∧xs[i]?=some x,fun i H x H'=>H'=H∧∀xs,SqL K H a xs→xs[i]?=some x,fun i H=>∃xs,SqL K H a xs∧xs.length≤i⟩
noncomputable def Itt (K:PySem.W.Frag) (a:Addr):It :=
  ⟨fun i H=>∃xs x,SqT K H a xs∧xs[i]?=some x,fun i H x H'=>H'=H∧∀xs,SqT K H a xs→xs[i]?=some x,fun i H=>∃xs,SqT K H a xs∧xs.length≤i⟩
noncomputable def Itr (lo:Int) (n:Nat):It:=⟨fun i _=>i<n,fun i H x H'=>H'=H∧x = .int (lo+i),fun i _=>n≤i⟩
theorem zeW {P:Program} {w:World} {K:PySem.W.Frag} {tg:Expr} (a it:Addr):Turn P w K tg (Itl K a) [it] it (fun i h=>h.IsListIter it a i) where
  mem:=by simp
  obj:=fun i h st b hb=>by
    have e:b=it:=by simpa using hb
    subst e
    obtain ⟨o,e,c,d⟩:=st
    exact ⟨o,e,fun v z=>by rw [d] at z;cases z⟩
  keep:=fun i h h' st k=>st.at fun o e=>k it (by simp) o e
  item:=by
    intro X hP hw hK hc i pins s σ H E I hf st hg
    subst hP hw hK
    obtain ⟨xs,x,hq,hx⟩:=hg
    obtain ⟨its,rv,p,hz⟩:=I.list hq
    obtain ⟨u,hu,ru⟩:=rv.get hx
    obtain ⟨f0,f1,f2,f3,f4,f5⟩:=hf it (by simp)
    refine wpAny_pyNext_list_item st p.isList (x:=u) (by simpa using hu) fun h' st' sb=>?_
    have I1:Inv X pins σ H { s with heap:=h' }:=I.turned (t':=s.toks) (fun b o hb e=>(sb.2 b hb).trans e) f0 f1 f3 f4 f5
    obtain ⟨o,e,c,d⟩:=id st'
    exact ⟨u,rfl,zfO (s:={ s with heap:=h' }) e c d (by decide) ⟨x,H,I1,ru,⟨rfl,fun ys hy=>by rw [I.list_inj hy hq];exact hx⟩,st',fun b hb=>(hf b hb).1⟩⟩
  done:=by
    intro X hP hw hK hc i pins s σ H E I hf st hg
    subst hP hw hK
    obtain ⟨xs,hq,hx⟩:=hg
    obtain ⟨its,rv,p,hz⟩:=I.list hq
    obtain ⟨f0,f1,f2,f3,f4,f5⟩:=hf it (by simp)
    have hl:=rv.length
    exact wpAny_pyNext_list_end (I.ok.hd hc) st p.isList (by simp;lia) fun h' eb=>⟨rfl,I.turned (t':=s.toks) (fun b o hb e=>eb b o hb e) f0 f1 f3 f4 f5⟩
  self:=fun _ _ _ _ _ st h=>wpAny_pyIter_listiter st h
theorem yey {P:Program} {w:World} {K:PySem.W.Frag} {tg:Expr} (a it:Addr):Turn P w K tg (Itt K a) [it] it (fun i h=>h.IsTupleIter it a i) where
  mem:=by simp
  obj:=fun i h st b hb=>by
    have e:b=it:=by simpa using hb
    subst e
    obtain ⟨o,e,c,d⟩:=st
    exact ⟨o,e,fun v z=>by rw [d] at z;cases z⟩
  keep:=fun i h h' st k=>st.at fun o e=>k it (by simp) o e
  item:=by
    intro X hP hw hK hc i pins s σ H E I hf st hg
    subst hP hw hK
    obtain ⟨xs,x,hq,hx⟩:=hg
    obtain ⟨its,rv,p,hz⟩:=I.tuple hq
    obtain ⟨u,hu,ru⟩:=rv.get hx
    obtain ⟨f0,f1,f2,f3,f4,f5⟩:=hf it (by simp)
    refine wpAny_pyNext_tuple_item st (show s.heap.IsTuple a its.toArray from p) (x:=u) (by simpa using hu) fun h' st' sb=>?_
    have I1:Inv X pins σ H { s with heap:=h' }:=I.turned (t':=s.toks) (fun b o hb e=>(sb.2 b hb).trans e) f0 f1 f3 f4 f5
    obtain ⟨o,e,c,d⟩:=id st'
    exact ⟨u,rfl,zfO (s:={ s with heap:=h' }) e c d (by decide) ⟨x,H,I1,ru,⟨rfl,fun ys hy=>by rw [I.tuple_inj hy hq];exact hx⟩,st',fun b hb=>(hf b hb).1⟩⟩
  done:=by
    intro X hP hw hK hc i pins s σ H E I hf st hg
    subst hP hw hK
    obtain ⟨xs,hq,hx⟩:=hg
    obtain ⟨its,rv,p,hz⟩:=I.tuple hq
    obtain ⟨f0,f1,f2,f3,f4,f5⟩:=hf it (by simp)
    have hl:=rv.length
    exact wpAny_pyNext_tuple_end (I.ok.hd hc) st (show s.heap.IsTuple a its.toArray from p) (by simp;lia) fun h' eb=>⟨rfl,I.turned (t':=s.toks) (fun b o hb e=>eb b o hb e) f0 f1 f3 f4 f5⟩
  self:=fun _ _ _ _ _ st h=>wpAny_pyIter_tupleiter st h
theorem zer {P:Program} {w:World} {K:PySem.W.Frag} {tg:Expr} (it:Addr) (lo:Int) (n:Nat):Turn P w K tg (Itr lo n) [it] it (fun i h=>IsRangeIter h it (lo+(i:Nat)*1) ((n:Int)-(i:Nat)) 1) where
  mem:=by simp
  obj:=fun i h st b hb=>by
    have e:b=it:=by simpa using hb
    subst e
    exact ⟨_,st,fun v z=>by
      have z':Data.fields _=Data.cell v:=z
      cases z'⟩
  keep:=fun i h h' st k=>k it (by simp) _ st
  item:=by
    intro X hP hw hK hc i pins s σ H E I hf st hg
    subst hP hw hK
    obtain ⟨f0,f1,f2,f3,f4,f5⟩:=hf it (by simp)
    have W:=Walks.range (prog:=X.prog) (w:=X.w) (I.ok.hd hc) it lo 1 n
    refine W.item i s _ _ hg st fun v h' tk hv st' kk=>?_
    obtain ⟨t,rfl⟩:=hv
    have I1:Inv X pins σ H { s with heap:=h',toks:=tk }:=I.turned (fun b o hb e=>kk b o (by simpa using hb) e) f0 f1 f3 f4 f5
    refine ⟨_,rfl,zfO (s:={ s with heap:=h',toks:=tk }) (n:="range_iterator") st' rfl rfl (by decide) ⟨.int (lo+i),H,I1,⟨t,?_⟩,⟨rfl,rfl⟩,st',fun b hb=>(hf b hb).1⟩⟩
    rw [Int.mul_one]
  done:=by
    intro X hP hw hK hc i pins s σ H E I hf st hg
    subst hP hw hK
    obtain ⟨f0,f1,f2,f3,f4,f5⟩:=hf it (by simp)
    exact wpAny_pyNext_range_end (I.ok.hd hc) st (by have:n≤i:=hg;lia) fun h' eb=>⟨rfl,I.turned (t':=s.toks) (fun b o hb e=>eb b o hb e) f0 f1 f3 f4 f5⟩
  self:=fun _ _ _ _ _ st h=>wpAny_pyIter_rangeiter st h
end L2
namespace L2
open PySem PySem.Spec PyProof.Rows
section
variable {X:Cx} {tg:Expr}
inductive GItl (K:PySem.W.Frag) (x:V) (H:Hp) (R:It→Hp→Prop):Prop
  | mk (a:Addr) (e:x = .ref a) (h:∃xs,SqL K H a xs) (q:R (Itl K a) H):GItl K x H R
inductive GItt (K:PySem.W.Frag) (x:V) (H:Hp) (R:It→Hp→Prop):Prop
  | mk (a:Addr) (e:x = .ref a) (h:∃xs,SqT K H a xs) (q:R (Itt K a) H):GItt K x H R
noncomputable def yht (K:PySem.W.Frag) (tl:TE):TI:=fun σ H R=>tl σ H fun x H1=>GItl K x H1 R
noncomputable def iTup (K:PySem.W.Frag) (tl:TE):TI:=fun σ H R=>tl σ H fun x H1=>GItt K x H1 R
theorem zaI {l:Expr} {tl:TE} (hl:PE X l tl):PI X tg l (yht X.K tl):=by
  intro pins s σ H R I h
  refine thn (hl pins s σ H _ I h) fun v s1 ⟨x,H1,I1,r1,q1⟩=>?_
  obtain ⟨a,e,⟨xs,hq⟩,q⟩:=q1
  subst e
  cases r1
  obtain ⟨its,rv,p,hz⟩:=I1.list hq
  refine wpAny_pyIter_list p.isList ?_
  refine ⟨s1.heap.objs.size,[s1.heap.objs.size],_,_,H1,rfl,I1.kept (t':=s1.toks) fun b o e=>Heap.get?_push_of_some _ e,zeW a _,⟨_,Heap.get?_push_size _ rfl,rfl,rfl⟩,fun b hb=>?_,q⟩
  have e:b=s1.heap.objs.size:=by simpa using hb
  subst e
  exact I1.fpOk (Nat.le_refl _) (I1.hok.fresh (Nat.le_refl _))
theorem zeN {l:Expr} {tl:TE} (hl:PE X l tl):PI X tg l (iTup X.K tl):=by
  intro pins s σ H R I h
  refine thn (hl pins s σ H _ I h) fun v s1 ⟨x,H1,I1,r1,q1⟩=>?_
  obtain ⟨a,e,⟨xs,hq⟩,q⟩:=q1
  subst e
  cases r1
  obtain ⟨its,rv,p,hz⟩:=I1.tuple hq
  refine wpAny_pyIter_tuple (show s1.heap.IsTuple a its.toArray from p) ?_
  refine ⟨s1.heap.objs.size,[s1.heap.objs.size],_,_,H1,rfl,I1.kept (t':=s1.toks) fun b o e=>Heap.get?_push_of_some _ e,yey a _,⟨_,Heap.get?_push_size _ rfl,rfl,rfl⟩,fun b hb=>?_,q⟩
  have e:b=s1.heap.objs.size:=by simpa using hb
  subst e
  exact I1.fpOk (Nat.le_refl _) (I1.hok.fresh (Nat.le_refl _))
theorem yed {pins:List (Addr×Obj)} {σ:St} {H:Hp} {s:Shared} {R:It→Hp→Prop} {E:Value→Shared→Prop} {lo hi:Int} {t u v:Tok} {tk:Nat} (I:Inv X pins σ H s) (h1 : -(2^62)≤lo) (h2:lo<2^62) (h3 : -(2^62)≤hi) (h4:hi<2^62)
    (q:R (Itr lo (hi-lo).toNat) H):wpAny (model X.prog X.w) X.A (pyIter (.ref s.heap.objs.size)) (PIE X pins σ tg R) E { s with heap:=s.heap.push { cls:=.type "range",data:=.fields #[.int lo t,.int hi u,.int 1 v] },toks:=tk }:=by
  refine wpAny_pyIter_range (IsRange.new ..) (small_one h1 h2 h3 h4) ?_
  have I1:Inv X pins σ H { s with heap:=s.heap.push { cls:=.type "range",data:=.fields #[.int lo t,.int hi u,.int 1 v] },toks:=tk }:=I.kept fun b o e=>Heap.get?_push_of_some _ e
  refine ⟨(s.heap.push { cls:=.type "range",data:=.fields #[.int lo t,.int hi u,.int 1 v] }).objs.size,[(s.heap.push { cls:=.type "range",data:=.fields #[.int lo t,.int hi u,.int 1 v] }).objs.size],_,_,H,rfl,
    I1.kept (t':=tk) fun b o e=>Heap.get?_push_of_some _ e,zer _ lo (hi-lo).toNat,?_,fun b hb=>?_,q⟩
  · have e1:lo+((0:Nat):Int)*1=lo:=by simp
    have e2:(((hi-lo).toNat:Nat):Int)-((0:Nat):Int)=Builtin.Range.rangeSize lo hi 1:=by rw [rangeSize_one];split <;> lia
    show IsRangeIter _ _ (lo+((0:Nat):Int)*1) ((((hi-lo).toNat:Nat):Int)-((0:Nat):Int)) 1
    rw [e1,e2]
    exact Heap.get?_push_size _ rfl
  · have e:b=(s.heap.push { cls:=.type "range",data:=.fields #[.int lo t,.int hi u,.int 1 v] }).objs.size:=by simpa using hb
    subst e
    exact I1.fpOk (Nat.le_refl _) (I1.hok.fresh (Nat.le_refl _))
inductive GRng (vs:List V) (H:Hp) (R:It→Hp→Prop):Prop
  | mk (j:Int) (e:vs=[.int j]) (a : -(2^62)≤j) (b:j<2^62) (q:R (Itr 0 j.toNat) H):GRng vs H R
noncomputable def yhh (ta:TA):TI:=fun σ H R=>ta σ H fun vs H1=>GRng vs H1 R
noncomputable def zhr (ta:TA):TI:=fun σ H R=>ta σ H fun vs H1=>∃i j:Int,vs=[.int i,.int j]∧(-(2^62)≤i∧i<2^62∧-(2^62)≤j∧j<2^62)∧R (Itr i (j-i).toNat) H1
theorem zfw {a:Expr} {ta:TA} {p pos:Pos} (hg:Gl X "range") (hm:X.mg "range"=none) (ha:PA X [a] ta) (hs:starEach [a] X.env=[(false,eval a X.env)]:=by rfl):PI X tg (.Call (.Name "range" p) [a] [] pos) (yhh ta):=by
  intro pins s σ H R I h
  refine Call_ (zbG I hg hm boot_range (PyProof.Rows.callWith_type1 (thn (ha pos pins s σ H _ I h) fun us s1 ⟨vs,H1,I1,r1,q1⟩=>?_) hs rfl))
  obtain ⟨j,e,q1,q2,q⟩:=q1
  subst e
  cases r1 with
  | cons r rr =>
    cases rr
    obtain ⟨t,rfl⟩:=r
    exact call_range_1 (yed I1 (by lia) (by lia) q1 q2 (by simpa using q))
theorem zbN {a b:Expr} {ta:TA} {p pos:Pos} (hg:Gl X "range") (hm:X.mg "range"=none) (ha:PA X [a,b] ta) (hs:starEach [a,b] X.env=[(false,eval a X.env),(false,eval b X.env)]:=by rfl) (hs2:starEach [b] X.env=[(false,eval b X.env)]:=by rfl) :
    PI X tg (.Call (.Name "range" p) [a,b] [] pos) (zhr ta):=by
  intro pins s σ H R I h
  refine Call_ (zbG I hg hm boot_range (PyProof.Rows.callWith_type1 (thn (ha pos pins s σ H _ I h) fun us s1 ⟨vs,H1,I1,r1,q1⟩=>?_) (by rw [hs,hs2]) (by rw [hs2];rfl)))
  obtain ⟨i,j,e,⟨q1,q2,q3,q4⟩,q⟩:=q1
  subst e
  cases r1 with
  | cons r rr =>
    cases rr with
    | cons r' rr =>
      cases rr
      obtain ⟨t,rfl⟩:=r
      obtain ⟨t',rfl⟩:=r'
      exact call_range_2 (yed I1 q1 q2 q3 q4 q)
noncomputable def tFor (wi:TI) (g:TG) (tb:TS):TS:=fun D σ H=>wi σ H fun J H1=>∃W:Nat→Nat→St→Hp→Prop,(∃m,W 0 m σ H1)∧∀i m σ H,W i m σ H→
  (J.stop i H∧D.nx σ H)∨(J.go i H∧∃N:St→Hp→Prop,(∀σ' H',N σ' H'→∃m',m'<m∧W (i+1) m' σ' H')∧∀x H',J.yld i H x H'→g x σ H' fun σ2 H2=>tb { D with nx:=N,ct:=N,bk:=D.nx } σ2 H2)
noncomputable def zdv (fp:List Addr) (h:Heap):List (Addr×Obj):=fp.filterMap fun b=>(h.get? b).map fun o=>(b,o)
theorem ybB {fp:List Addr} {h:Heap} {b:Addr} {o:Obj} (hb:b∈fp) (e:h.get? b=some o):(b,o)∈zdv fp h:=List.mem_filterMap.mpr ⟨b,hb,by rw [e];rfl⟩
theorem ye2 {fp:List Addr} {h:Heap} {p:Addr×Obj} (hp:p∈zdv fp h):p.1∈fp∧h.get? p.1=some p.2:=by
  obtain ⟨b,hb,e⟩:=List.mem_filterMap.mp hp
  cases q:h.get? b with
  | none=>rw [q] at e;cases e
  | some o =>
    rw [q] at e
    have e':(b,o)=p:=Option.some.inj e
    subst e'
    exact ⟨hb,q⟩
theorem Inv.pinned {pins:List (Addr×Obj)} {σ:St} {H:Hp} {s:Shared} {fp:List Addr} (I:Inv X pins σ H s) (hf:∀b∈fp,FpOk X pins H b) (ho:∀b∈fp,∃o,s.heap.get? b=some o∧∀v,o.data≠.cell v):Inv X (pins++zdv fp s.heap) σ H s :=
  I.pins_of fun p hp=>(List.mem_append.mp hp).elim (fun z=>I.pin p (List.mem_append_right _ z)) fun z=>by
    obtain ⟨hb,e⟩:=ye2 z
    obtain ⟨f0,f1,f2,_⟩:=hf p.1 hb
    obtain ⟨o,e',d⟩:=ho p.1 hb
    rw [e] at e';cases e'
    exact ⟨e,f0,f1,f2,d⟩
theorem Inv.unpinned {pins pl:List (Addr×Obj)} {σ:St} {H:Hp} {s:Shared} (I:Inv X (pins++pl) σ H s):Inv X pins σ H s:=I.pins_of fun p hp=>I.pin p (List.mem_append_right _ (List.mem_append_left _ hp))
theorem yha {iter:Expr} {body:List Stmt} {wi:TI} {g:TG} {tb:TS} {pos:Pos} (hp:PassesOwn (model X.prog X.w) X.A X.env X.xe) (hc:X.calm=true) (hi:PI X tg iter wi) (hg:PG X tg g) (hb:PSs X body tb)
    (hs:∀x,foldedSetIterable iter X.env x=pure x:=by intro _;rfl):PS X (.For tg iter body [] pos) (tFor wi g tb):=by
  intro pins s σ H D I h
  refine wpAny_For (thn (hi pins s σ H _ I h) fun v s1 h1=>thn h1 fun itv s2 h2=>?_) hs
  obtain ⟨it,fp,tn,J,H2,e,I2,T,st2,f2,W,⟨m0,w0⟩,turn⟩:=h2
  subst e
  have stat:∀ {H':Hp},(∀b∈fp,H' b=none)→∀b∈fp,FpOk X pins H' b:=fun hn b hb=>⟨hn b hb,(f2 b hb).2⟩
  refine codeAny_forLoop_any (fun n s'=>∃i σ' H',Inv X pins σ' H' s'∧tn i s'.heap∧(∀b∈fp,H' b=none)∧W i n σ' H') ?_ m0 ⟨0,σ,H2,I2,st2,fun b hb=>(f2 b hb).1,w0⟩
  rintro n s3 ⟨i,σ3,H3,I3,st3,fr3,w3⟩
  rcases turn i n σ3 H3 w3 with ⟨stop,qn⟩ | ⟨go,N,hN,step⟩
  · refine wpAny_passesOwn hp (thn (T.done X rfl rfl rfl hc i pins s3 σ3 H3 X.xe I3 (stat fr3) st3 stop) fun r s4 ⟨hr,I4⟩=>?_)
    subst hr
    exact wpAny_execs_nil ⟨σ3,H3,I4,qn⟩
  · refine wpAny_passesOwn hp (thn (T.item X rfl rfl rfl hc i pins s3 σ3 H3 X.xe I3 (stat fr3) st3 go) fun r s4 ⟨u,hr,h4⟩=>?_)
    subst hr
    refine wpAny_passesOwn hp (thn h4 fun _ s5 ⟨x,H5,I5,r5,y5,st5,fr5⟩=>?_)
    have I5':=I5.pinned (stat fr5) (T.obj _ _ st5)
    refine wpAny_passesOwn hp (thn (hg _ s5 σ3 H5 x u _ I5' r5 (step x H5 y5)) fun _ s6 ⟨σ6,H6,I6,q6⟩=>?_)
    refine wpAny_passesOwn hp (thn (hb _ s6 σ6 H6 _ I6 q6) fun f s7 q7=>?_)
    have again:∀ {σ7:St} {H7:Hp},Inv X (pins++zdv fp s5.heap) σ7 H7 s7→N σ7 H7→∃m,m<n∧∃i σ' H',Inv X pins σ' H' s7∧tn i s7.heap∧(∀b∈fp,H' b=none)∧W i m σ' H':=fun {σ7 H7} I7 n7=>by
      obtain ⟨m',hm,w7⟩:=hN σ7 H7 n7
      refine ⟨m',hm,i+1,σ7,H7,I7.unpinned,T.keep _ _ _ st5 fun b hb o e=>(I7.pin (b,o) (List.mem_append_right _ (List.mem_append_right _ (ybB hb e)))).1,fun b hb=>?_,w7⟩
      obtain ⟨o,e,d⟩:=T.obj _ _ st5 b hb
      exact (I7.pin (b,o) (List.mem_append_right _ (List.mem_append_right _ (ybB hb e)))).2.1
    cases f with
    | next=>obtain ⟨σ7,H7,I7,n7⟩:=q7;exact again I7 n7
    | cont=>obtain ⟨σ7,H7,I7,n7⟩:=q7;exact again I7 n7
    | brk=>obtain ⟨σ7,H7,I7,q7⟩:=q7;exact ⟨σ7,H7,I7.unpinned,q7⟩
    | ret v=>obtain ⟨x7,σ7,H7,I7,r7,q7⟩:=q7;exact ⟨x7,σ7,H7,I7.unpinned,r7,q7⟩
end
theorem ydc {K:PySem.W.Frag} {a:Addr} {xs:List V} {g:TG} {tb:TS} {D:Ends} {σ:St} {H:Hp} (Pv:Nat→St→Hp→Prop) (h0:Pv 0 σ H) (hl:∀i σ H,i≤xs.length→Pv i σ H→SqL K H a xs)
    (hs:∀i x σ H,xs[i]?=some x→Pv i σ H→g x σ H fun σ2 H2=>tb { D with nx:=Pv (i+1),ct:=Pv (i+1),bk:=D.nx } σ2 H2) (hd:∀σ H,Pv xs.length σ H→D.nx σ H) :
    ∃W:Nat→Nat→St→Hp→Prop,(∃m,W 0 m σ H)∧∀i m σ H,W i m σ H→
      ((Itl K a).stop i H∧D.nx σ H)∨((Itl K a).go i H∧∃N:St→Hp→Prop,(∀σ' H',N σ' H'→∃m',m'<m∧W (i+1) m' σ' H')∧∀x H',(Itl K a).yld i H x H'→g x σ H' fun σ2 H2=>tb { D with nx:=N,ct:=N,bk:=D.nx } σ2 H2):=by
  refine ⟨fun i m σ H=>m=xs.length-i∧i≤xs.length∧Pv i σ H,⟨xs.length,by simp,Nat.zero_le _,h0⟩,?_⟩
  rintro i m σ H ⟨rfl,hi,p⟩
  have q:=hl i σ H hi p
  by_cases hlt:i<xs.length
  · refine .inr ⟨⟨xs,xs[i],q,by simp [hlt]⟩,Pv (i+1),fun σ' H' p'=>⟨xs.length-(i+1),by lia,rfl,hlt,p'⟩,fun x H' y=>?_⟩
    obtain ⟨e,y⟩:=y
    subst e
    exact hs i x σ _ (y xs q) p
  · have e:i=xs.length:=by lia
    subst e
    exact .inl ⟨⟨xs,q,Nat.le_refl _⟩,hd σ H p⟩
theorem yaz {lo:Int} {n:Nat} {g:TG} {tb:TS} {D:Ends} {σ:St} {H:Hp} (Pv:Nat→St→Hp→Prop) (h0:Pv 0 σ H)
    (hs:∀i σ H,i<n→Pv i σ H→g (.int (lo+i)) σ H fun σ2 H2=>tb { D with nx:=Pv (i+1),ct:=Pv (i+1),bk:=D.nx } σ2 H2) (hd:∀σ H,Pv n σ H→D.nx σ H) :
    ∃W:Nat→Nat→St→Hp→Prop,(∃m,W 0 m σ H)∧∀i m σ H,W i m σ H→
      ((Itr lo n).stop i H∧D.nx σ H)∨((Itr lo n).go i H∧∃N:St→Hp→Prop,(∀σ' H',N σ' H'→∃m',m'<m∧W (i+1) m' σ' H')∧∀x H',(Itr lo n).yld i H x H'→g x σ H' fun σ2 H2=>tb { D with nx:=N,ct:=N,bk:=D.nx } σ2 H2):=by
  refine ⟨fun i m σ H=>m=n-i∧i≤n∧Pv i σ H,⟨n,by simp,Nat.zero_le _,h0⟩,?_⟩
  rintro i m σ H ⟨rfl,hi,p⟩
  by_cases hlt:i<n
  · refine .inr ⟨hlt,Pv (i+1),fun σ' H' p'=>⟨n-(i+1),by lia,rfl,hlt,p'⟩,fun x H' y=>?_⟩
    obtain ⟨e,y⟩:=y
    subst e y
    exact hs i σ _ hlt p
  · have e:i=n:=by lia
    subst e
    exact .inl ⟨Nat.le_refl _,hd σ H p⟩
end L2
namespace L2
open PySem PySem.Spec PyProof.Rows
noncomputable abbrev R2:=V→V→Hp→VK→Prop
noncomputable def OpR (X:Cx) (f:Value→Value→Sem Value) (r:R2):Prop :=
  ∀(pins:List (Addr×Obj)) (s:Shared) (σ:St) (H:Hp) (x y:V) (v u:Value) (Q:VK),Inv X pins σ H s→RelV x v→RelV y u→r x y H Q→
    wpAny (model X.prog X.w) X.A (f v u) (EP X pins σ Q) X.xe s
noncomputable def UnR (X:Cx) (f:Value→Sem Value) (r:V→Hp→VK→Prop):Prop :=
  ∀(pins:List (Addr×Obj)) (s:Shared) (σ:St) (H:Hp) (x:V) (v:Value) (Q:VK),Inv X pins σ H s→RelV x v→r x H Q→
    wpAny (model X.prog X.w) X.A (f v) (EP X pins σ Q) X.xe s
noncomputable def ybE (X:Cx) (f:Value) (r:List V→Hp→VK→Prop):Prop :=
  ∀(pins:List (Addr×Obj)) (s:Shared) (σ:St) (H:Hp) (xs:List V) (us:List Value) (Q:VK),Inv X pins σ H s→Vals xs us→r xs H Q→
    wpAny (model X.prog X.w) X.A (call f us) (EP X pins σ Q) X.xe s
noncomputable def tOp (r:R2) (ta tb:TE):TE:=fun σ H Q=>ta σ H fun x H1=>tb σ H1 fun y H2=>r x y H2 Q
noncomputable def tUn (r:V→Hp→VK→Prop) (ta:TE):TE:=fun σ H Q=>ta σ H fun x H1=>r x H1 Q
inductive GI (C:Int→Int→Prop) (g:Int→Int→V) (x y:V) (H:Hp) (Q:VK):Prop
  | mk (i j:Int) (a:x = .int i) (b:y = .int j) (q:C i j∧Q (g i j) H):GI C g x y H Q
noncomputable def rI (C:Int→Int→Prop) (g:Int→Int→V):R2:=fun x y H Q=>GI C g x y H Q
inductive GI0 (g:Int→Int→V) (x y:V) (H:Hp) (Q:VK):Prop
  | mk (i j:Int) (a:x = .int i) (b:y = .int j) (q:Q (g i j) H):GI0 g x y H Q
noncomputable def rI0 (g:Int→Int→V):R2:=fun x y H Q=>GI0 g x y H Q
noncomputable def rU (g:Int→V):V→Hp→VK→Prop:=fun x H Q=>∃i,x = .int i∧Q (g i) H
section
variable {X:Cx} {a b c:Expr} {ta tb tc:TE} {pos:Pos}
theorem binT (ha:PE X a ta) (hb:PE X b tb) {pins:List (Addr×Obj)} {s:Shared} {σ:St} {H:Hp} {R:V→V→Hp→Prop} (I:Inv X pins σ H s)
    (h:ta σ H fun x H1=>tb σ H1 fun y H2=>R x y H2) {Q:Value→Shared→Prop} {f:Value→Value→Sem Value}
    (hf:∀v u s2 x y H2,Inv X pins σ H2 s2→RelV x v→RelV y u→R x y H2→wpAny (model X.prog X.w) X.A (f v u) Q X.xe s2) :
    wpAny (model X.prog X.w) X.A (eval a X.env) (fun v s₁=>wpAny (model X.prog X.w) X.A (eval b X.env) (fun u s₂=>wpAny (model X.prog X.w) X.A (f v u) Q X.xe s₂) X.xe s₁) X.xe s:=by
  refine thn (ha pins s σ H _ I h) fun v s1 ⟨x,H1,I1,r1,q1⟩=>?_
  refine thn (hb pins s1 σ H1 _ I1 q1) fun u s2 ⟨y,H2,I2,r2,q2⟩=>?_
  exact hf v u s2 x y H2 I2 r1 r2 q2
theorem zhn {op:Operator} {r:R2} (ho:OpR X (binaryOp op) r) (ha:PE X a ta) (hb:PE X b tb):PE X (.BinOp a op b pos) (tOp r ta tb):=by
  intro pins s σ H Q I h
  exact wpAny_BinOp (binT ha hb I h fun v u s2 x y H2 I2 rx ry q=>ho pins s2 σ H2 x y v u Q I2 rx ry q)
theorem zeq {op:UnaryOp} {r:V→Hp→VK→Prop} (ho:UnR X (unaryOp op) r) (ha:PE X a ta):PE X (.UnaryOp op a pos) (tUn r ta):=by
  intro pins s σ H Q I h
  exact UnaryOp_ (thn (ha pins s σ H _ I h) fun v s1 ⟨x,H1,I1,r1,q1⟩=>ho pins s1 σ H1 x v Q I1 r1 q1)
theorem opI {f:Value→Value→Sem Value} {C:Int→Int→Prop} {g:Int→Int→Int}
    (rule:∀(i j:Int) (t u:Tok) (s:Shared) (Q:Value→Shared→Prop) (E:Value→Shared→Prop),C i j→Q (.int (g i j) s.toks) { s with toks:=s.toks+1 }→wpAny (model X.prog X.w) X.A (f (.int i t) (.int j u)) Q E s) :
    OpR X f (rI C fun i j=>.int (g i j)):=by
  intro pins s σ H x y v u Q I rx ry h
  obtain ⟨i,j,rfl,rfl,hc,q⟩:=h
  obtain ⟨t,rfl⟩:=rx
  obtain ⟨t',rfl⟩:=ry
  exact rule i j t t' s _ _ hc ⟨.int (g i j),H,I.tok _,⟨_,rfl⟩,q⟩
theorem opI0 {f:Value→Value→Sem Value} {g:Int→Int→Int}
    (rule:∀(i j:Int) (t u:Tok) (s:Shared) (Q:Value→Shared→Prop) (E:Value→Shared→Prop),Q (.int (g i j) s.toks) { s with toks:=s.toks+1 }→wpAny (model X.prog X.w) X.A (f (.int i t) (.int j u)) Q E s) :
    OpR X f (rI0 fun i j=>.int (g i j)):=by
  intro pins s σ H x y v u Q I rx ry h
  obtain ⟨i,j,rfl,rfl,q⟩:=h
  obtain ⟨t,rfl⟩:=rx
  obtain ⟨t',rfl⟩:=ry
  exact rule i j t t' s _ _ ⟨.int (g i j),H,I.tok _,⟨_,rfl⟩,q⟩
theorem opB0 {f:Value→Value→Sem Value} {g:Int→Int→Bool}
    (rule:∀(i j:Int) (t u:Tok) (s:Shared) (Q:Value→Shared→Prop) (E:Value→Shared→Prop),Q (.bool (g i j)) s→wpAny (model X.prog X.w) X.A (f (.int i t) (.int j u)) Q E s) :
    OpR X f (rI0 fun i j=>.bl (g i j)):=by
  intro pins s σ H x y v u Q I rx ry h
  obtain ⟨i,j,rfl,rfl,q⟩:=h
  obtain ⟨t,rfl⟩:=rx
  obtain ⟨t',rfl⟩:=ry
  exact rule i j t t' s _ _ ⟨.bl (g i j),H,I,rfl,q⟩
noncomputable def CDiv (i j:Int):Prop:=0<j∧j<1073741824
noncomputable def CPow (i j:Int):Prop:=0≤j∧j≤1000000∧i.natAbs<2^64
noncomputable def CMul (i j:Int):Prop:=(-(2^64)<i∧i<2^64)∨(-(2^64)<j∧j<2^64)
theorem CMul.ok {i j:Int} (h:CMul i j):IntMulOk i j:=by
  rcases h with ⟨h1,h2⟩ | ⟨h1,h2⟩
  · exact .of_left (intBits_le_64 h1 h2)
  · exact .of_right (intBits_le_64 h1 h2)
theorem zan:OpR X (binaryOp .Add) (rI0 fun i j=>.int (i+j)):=opI0 fun _ _ _ _ _ _ _ q=>add_int q
theorem zaH:OpR X (binaryOp .Sub) (rI0 fun i j=>.int (i-j)):=opI0 fun _ _ _ _ _ _ _ q=>sub_int q
theorem yaH:OpR X (binaryOp .Mult) (rI CMul fun i j=>.int (i*j)):=opI fun _ _ _ _ _ _ _ hc q=>mul_int q hc.ok
theorem yhg:OpR X (binaryOp .FloorDiv) (rI CDiv fun i j=>.int (i/j)):=opI fun i j _ _ _ _ _ hc q=>by
  have h1:(0:Int)<j:=hc.1
  have h2:j<1073741824:=hc.2
  exact floordiv_int (by lia) (by rw [Int.fdiv_eq_ediv_of_nonneg i (by lia)];exact q) (.inl (PyProof.noPylong_small (by lia)))
theorem yaB:OpR X (binaryOp .Mod) (rI (fun _ j=>0<j) fun i j=>.int (i%j)):=opI fun i j _ _ _ _ _ hc q=>by
  have h1:(0:Int)<j:=hc
  exact mod_int' (by lia) (by rw [Int.fmod_eq_emod_of_nonneg i (by lia)];exact q)
theorem zd5:OpR X (binaryOp .Pow) (rI CPow fun i j=>.int (i^j.toNat)):=opI fun _ _ _ _ _ _ _ hc q=>pow_int_small hc.1 hc.2.1 hc.2.2 q
theorem yg9:OpR X (binaryOp .BitXor) (rI0 fun i j=>.int (Builtin.bitXor i j)):=opI0 fun _ _ _ _ _ _ _ q=>xor_int q
theorem unI {f:Value→Sem Value} {g:Int→Int}
    (rule:∀(i:Int) (t:Tok) (s:Shared) (Q:Value→Shared→Prop) (E:Value→Shared→Prop),Q (.int (g i) s.toks) { s with toks:=s.toks+1 }→wpAny (model X.prog X.w) X.A (f (.int i t)) Q E s) :
    UnR X f (rU fun i=>.int (g i)):=by
  intro pins s σ H x v Q I rx h
  obtain ⟨i,rfl,q⟩:=h
  obtain ⟨t,rfl⟩:=rx
  exact rule i t s _ _ ⟨.int (g i),H,I.tok _,⟨_,rfl⟩,q⟩
theorem ycP:UnR X (unaryOp .USub) (rU fun i=>.int (-i)):=unI fun _ _ _ _ _ q=>neg_int q
end
noncomputable def scal:V→V→Bool
  | .non,.non=>true | .non,.int _=>true | .int _,.non=>true | .non,.bl _=>true | .bl _,.non=>true | .non,.str _=>true | .str _,.non=>true
  | .int _,.int _=>true | .bl _,.bl _=>true | .str _,.str _=>true | .byt _,.byt _=>true
  | .int _,.str _=>true | .str _,.int _=>true | .bl _,.str _=>true | .str _,.bl _=>true
  | _,_=>false
inductive GEq (x y:V) (H:Hp) (Q:VK):Prop
  | mk (h:scal x y=true) (q:Q (.bl (decide (x=y))) H):GEq x y H Q
noncomputable def rEq:R2:=fun x y H Q=>GEq x y H Q
inductive GNe (x y:V) (H:Hp) (Q:VK):Prop
  | mk (h:scal x y=true) (q:Q (.bl (!decide (x=y))) H):GNe x y H Q
noncomputable def rNe:R2:=fun x y H Q=>GNe x y H Q
theorem yeQ {i j:Int}:decide (V.int i=V.int j)=(i==j):=by
  rw [Bool.eq_iff_iff]
  simp
theorem yf7 {i j:Bool}:decide (V.bl i=V.bl j)=(i==j):=by
  rw [Bool.eq_iff_iff]
  simp
theorem zeT {i j:Str}:decide (V.str i=V.str j)=(i==j):=by
  rw [Bool.eq_iff_iff]
  simp
theorem yeT {i j:Array UInt8}:decide (V.byt i=V.byt j)=(i.toList==j.toList):=by
  rw [Bool.eq_iff_iff]
  cases i
  cases j
  simp
section
variable {X:Cx} {a b c:Expr} {ta tb tc:TE} {pos:Pos}
theorem yap {pins:List (Addr×Obj)} {σ:St} {H:Hp} {s:Shared} {Q:VK} {k k':Bool} (I:Inv X pins σ H s) (q:Q (.bl k) H) (e:k=k'):EP X pins σ Q (.bool k') s:=by
  subst e
  exact ⟨.bl k,H,I,rfl,q⟩
theorem ybJ:OpR X (compareOp .Eq) rEq:=by
  intro pins s σ H x y v u Q I rx ry h
  obtain ⟨hs,q⟩:=h
  cases x with
  | non =>
    cases rx
    cases y with
    | non=>cases ry;exact PySem.EqNone.eq_none_none (yap I q (by simp))
    | bl j=>cases ry;exact PySem.EqNone.eq_none_bool (yap I q (by simp))
    | int j=>obtain ⟨t',rfl⟩:=ry;exact PySem.EqNone.eq_none_int (yap I q (by simp))
    | str j=>obtain ⟨t',rfl⟩:=ry;exact PySem.EqNone.eq_none_str (yap I q (by simp))
    | _=>exact absurd (show false=true from hs) Bool.false_ne_true
  | bl i =>
    cases rx
    cases y with
    | non=>cases ry;exact PySem.EqNone.eq_bool_none (yap I q (by simp))
    | bl j=>cases ry;exact eq_bool (yap I q yf7)
    | str j=>obtain ⟨t',rfl⟩:=ry;exact PySem.EqMixed.eq_bool_str (yap I q (by simp))
    | _=>exact absurd (show false=true from hs) Bool.false_ne_true
  | int i =>
    obtain ⟨t,rfl⟩:=rx
    cases y with
    | non=>cases ry;exact PySem.EqNone.eq_int_none (yap I q (by simp))
    | int j=>obtain ⟨t',rfl⟩:=ry;exact eq_int (yap I q yeQ)
    | str j=>obtain ⟨t',rfl⟩:=ry;exact PySem.EqMixed.eq_int_str (yap I q (by simp))
    | _=>exact absurd (show false=true from hs) Bool.false_ne_true
  | str i =>
    obtain ⟨t,rfl⟩:=rx
    cases y with
    | non=>cases ry;exact PySem.EqNone.eq_str_none (yap I q (by simp))
    | bl j=>cases ry;exact PySem.EqMixed.eq_str_bool (yap I q (by simp))
    | int j=>obtain ⟨t',rfl⟩:=ry;exact PySem.EqMixed.eq_str_int (yap I q (by simp))
    | str j=>obtain ⟨t',rfl⟩:=ry;exact eq_str (yap I q zeT)
    | _=>exact absurd (show false=true from hs) Bool.false_ne_true
  | byt i =>
    obtain ⟨t,rfl⟩:=rx
    cases y with
    | byt j=>obtain ⟨t',rfl⟩:=ry;exact PySem.W.eq_bytes (yap I q yeT)
    | _=>exact absurd (show false=true from hs) Bool.false_ne_true
  | _=>cases y <;> exact absurd (show false=true from hs) Bool.false_ne_true
theorem yeG:OpR X (compareOp .NotEq) rNe:=by
  intro pins s σ H x y v u Q I rx ry h
  obtain ⟨hs,q⟩:=h
  cases x with
  | non =>
    cases rx
    cases y with
    | non=>cases ry;exact PySem.EqNone.ne_none_none (yap I q (by simp))
    | bl j=>cases ry;exact PySem.EqNone.ne_none_bool (yap I q (by simp))
    | int j=>obtain ⟨t',rfl⟩:=ry;exact PySem.EqNone.ne_none_int (yap I q (by simp))
    | str j=>obtain ⟨t',rfl⟩:=ry;exact PySem.EqNone.ne_none_str (yap I q (by simp))
    | _=>exact absurd (show false=true from hs) Bool.false_ne_true
  | bl i =>
    cases rx
    cases y with
    | non=>cases ry;exact PySem.EqNone.ne_bool_none (yap I q (by simp))
    | bl j=>cases ry;exact ne_bool (yap I q (congrArg not yf7))
    | str j=>obtain ⟨t',rfl⟩:=ry;exact PySem.EqMixed.ne_bool_str (yap I q (by simp))
    | _=>exact absurd (show false=true from hs) Bool.false_ne_true
  | int i =>
    obtain ⟨t,rfl⟩:=rx
    cases y with
    | non=>cases ry;exact PySem.EqNone.ne_int_none (yap I q (by simp))
    | int j=>obtain ⟨t',rfl⟩:=ry;exact ne_int (yap I q (congrArg not yeQ))
    | str j=>obtain ⟨t',rfl⟩:=ry;exact PySem.EqMixed.ne_int_str (yap I q (by simp))
    | _=>exact absurd (show false=true from hs) Bool.false_ne_true
  | str i =>
    obtain ⟨t,rfl⟩:=rx
    cases y with
    | non=>cases ry;exact PySem.EqNone.ne_str_none (yap I q (by simp))
    | bl j=>cases ry;exact PySem.EqMixed.ne_str_bool (yap I q (by simp))
    | int j=>obtain ⟨t',rfl⟩:=ry;exact PySem.EqMixed.ne_str_int (yap I q (by simp))
    | str j=>obtain ⟨t',rfl⟩:=ry;exact ne_str (yap I q (congrArg not zeT))
    | _=>exact absurd (show false=true from hs) Bool.false_ne_true
  | byt i =>
    obtain ⟨t,rfl⟩:=rx
    cases y with
    | byt j=>obtain ⟨t',rfl⟩:=ry;exact PySem.W.ne_bytes (yap I q (congrArg not yeT))
    | _=>exact absurd (show false=true from hs) Bool.false_ne_true
  | _=>cases y <;> exact absurd (show false=true from hs) Bool.false_ne_true
theorem ygC:OpR X (compareOp .Lt) (rI0 fun i j=>.bl (decide (i<j))):=opB0 fun _ _ _ _ _ _ _ q=>lt_int q
theorem yg0:OpR X (compareOp .LtE) (rI0 fun i j=>.bl (decide (i≤j))):=opB0 fun _ _ _ _ _ _ _ q=>le_int q
theorem zdP:OpR X (compareOp .Gt) (rI0 fun i j=>.bl (decide (j<i))):=opB0 fun _ _ _ _ _ _ _ q=>gt_int q
theorem yhi:OpR X (compareOp .GtE) (rI0 fun i j=>.bl (decide (j≤i))):=opB0 fun _ _ _ _ _ _ _ q=>ge_int q
theorem yds (b:Expr) {op:CmpOp} (h:op≠.In:=by decide) (h2:op≠.NotIn:=by decide):behindInMarks op b=false:=by
  have e1:(op==CmpOp.In)=false:=by cases op <;> first|rfl|exact absurd rfl h
  have e2:(op==CmpOp.NotIn)=false:=by cases op <;> first|rfl|exact absurd rfl h2
  cases b <;> simp [behindInMarks,e1,e2]
theorem zcR {op:CmpOp} {r:R2} (ho:OpR X (compareOp op) r) (ha:PE X a ta) (hb:PE X b tb) (hm:behindInMarks op b=false):PE X (.Compare a [op] [b] pos) (tOp r ta tb):=by
  intro pins s σ H Q I h
  exact wpAny_Compare1 (binT ha hb I h fun v u s2 x y H2 I2 rx ry q=>ho pins s2 σ H2 x y v u Q I2 rx ry q) hm
inductive GBl (x:V) (H:Hp) (Q:Bool→Hp→Prop):Prop
  | mk (k:Bool) (e:x = .bl k) (q:Q k H):GBl x H Q
noncomputable def yhv (t:TE):TT:=fun σ H Q=>t σ H fun x H'=>GBl x H' Q
theorem ydH {op:CmpOp} {r:R2} (ho:OpR X (compareOp op) r) (ha:PE X a ta) (hb:PE X b tb) (hm:behindInMarks op b=false):PT X (.Compare a [op] [b] pos) (yhv (tOp r ta tb)):=by
  intro pins s σ H Q I h
  refine wpAny_isTrue_Compare1 (thn (ha pins s σ H _ I h) fun v s1 ⟨x,H1,I1,r1,q1⟩=>thn (hb pins s1 σ H1 _ I1 q1) fun u s2 ⟨y,H2,I2,r2,q2⟩ =>
    thn (ho pins s2 σ H2 x y v u _ I2 r1 r2 q2) fun c s3 ⟨z,H3,I3,r3,k,e,q3⟩=>?_) hm
  subst e
  cases r3
  exact wpAny_truthy_bool ⟨H3,I3,q3⟩
theorem yea:(sizeLine:Nat)<2^63:=by rw [sizeLine_eq];decide
theorem yb1 {x:V} {us:List Value} (r:Vals [x] us):∃u,us=[u]∧RelV x u:=by
  cases r with
  | cons r1 r2=>cases r2;exact ⟨_,rfl,r1⟩
theorem yhq {x y:V} {us:List Value} (r:Vals [x,y] us):∃u w',us=[u,w']∧RelV x u∧RelV y w':=by
  cases r with
  | cons r1 r2 =>
    cases r2 with
    | cons r3 r4=>cases r4;exact ⟨_,_,rfl,r1,r3⟩
theorem zef:ybE X (.builtin "abs") (fun xs H Q=>∃i,xs=[.int i]∧Q (.int (if i<0 then -i else i)) H):=by
  intro pins s σ H xs us Q I r h
  obtain ⟨i,rfl,q⟩:=h
  obtain ⟨u,rfl,t,rfl⟩:=yb1 r
  exact call_abs_int fun u tk=>⟨.int (if i<0 then -i else i),H,I.tok _,⟨_,rfl⟩,q⟩
theorem yeI (hc:X.calm=true):ybE X (.builtin "min") (fun xs H Q=>∃i j,xs=[.int i,.int j]∧Q (.int (if j<i then j else i)) H):=by
  intro pins s σ H xs us Q I r h
  obtain ⟨i,j,rfl,q⟩:=h
  obtain ⟨u,w',rfl,⟨t,rfl⟩,⟨t',rfl⟩⟩:=yhq r
  refine min_two_ints (I.ok.hd hc) fun h' tk k=>⟨_,H,I.kept k,?_,q⟩
  by_cases hj:j<i
  · rw [if_pos hj,if_pos hj];exact ⟨_,rfl⟩
  · rw [if_neg hj,if_neg hj];exact ⟨_,rfl⟩
theorem zcq:ybE X (.type "int") (fun xs H Q=>(∃i,xs=[.int i]∧Q (.int i) H)∨∃k,xs=[.bl k]∧Q (.int (if k then 1 else 0)) H):=by
  intro pins s σ H xs us Q I r h
  rcases h with ⟨i,rfl,q⟩ | ⟨k,rfl,q⟩
  · obtain ⟨u,rfl,t,rfl⟩:=yb1 r
    exact call_int_int ⟨.int i,H,I,⟨_,rfl⟩,q⟩
  · obtain ⟨u,rfl,r1⟩:=yb1 r
    cases r1
    exact call_int_bool ⟨.int (if k then 1 else 0),H,I.tok _,⟨_,rfl⟩,q⟩
end
end L2
namespace L2
open PySem PySem.Spec PyProof.Rows
structure ObjM (h:Heap) (x dx C:Addr) (mA:Str→Option Value):Prop where
  obj:h.get? x=some (PySem.W.instObj C dx)
  ns:h.Ns1 dx mA
  ne:dx≠x
theorem RelO.some_of {v:V} {o:Option Value} (r:RelO (some v) o):∃u,o=some u∧RelV v u:=by
  cases o with
  | none=>exact (show False from r).elim
  | some u=>exact ⟨u,rfl,r⟩
structure Cls (K:PySem.W.Frag) (C:Addr):Prop where
  pg:PySem.W.plainGet K C Str.empty=true
  hd:PySem.W.hasDictIn K C=true
  po:PySem.W.plainOver K C=true
  sa:PySem.W.findIn K (.ref C) "__setattr__"=some (some (.builtin "object.__setattr__"))
structure Con (K:PySem.W.Frag) (C:Addr) (f:Str) (v:V) (u:Value):Prop where
  at_:PySem.W.findIn K (.ref C) f=some (some u)
  rel:RelV v u
  get:PySem.W.specialIn K u "__get__"=some none
  cp:PySem.W.copiedNames.contains f=false
structure Meth (K:PySem.W.Frag) (C:Addr) (m:Str) (f:Addr):Prop where
  at_:PySem.W.findIn K (.ref C) m=some (some (.ref f))
  fn:PySem.W.isFn K (.ref f)=true
  kp:PySem.W.keepIn K (.ref f)=true
section
variable {X:Cx} {pins:List (Addr×Obj)} {σ:St} {H:Hp} {s:Shared} {A:Around} {E:Value→Shared→Prop} {Q:Value→Shared→Prop} {c:Value} {b:Bool}
inductive TyOf (K:PySem.W.Frag) (H:Hp):V→Value→Prop where
  | non:TyOf K H .non (.type "NoneType")
  | bl (x:Bool):TyOf K H (.bl x) (.type "bool")
  | int (i:Int):TyOf K H (.int i) (.type "int")
  | str (x:Str):TyOf K H (.str x) (.type "str")
  | flt (x:UInt64):TyOf K H (.flt x) (.type "float")
  | lst {a:Addr} {xs:List V} (e:H a=some (.lst xs)):TyOf K H (.ref a) (.type "list")
  | frz {a:Addr} {o:Obj} {xs:List V} (e:H a=some (.frz o (.lst xs))):TyOf K H (.ref a) (.type "list")
  | tup {a:Addr} {xs:List V} (e:H a=some (.tup xs)):TyOf K H (.ref a) (.type "tuple")
  | dK {a:Addr} {kvs:List (Key×V)} (e:H a=some (.dK kvs)):TyOf K H (.ref a) (.type "dict")
  | dT {a:Addr} {kvs:List (List Key×V)} (e:H a=some (.dT kvs)):TyOf K H (.ref a) (.type "dict")
  | ins {a C dx:Addr} {fs:List (Str×V)} (e:H a=some (.ins C dx fs)) (cl:Cls K C) (ha:PySem.W.findIn K (.ref C) "__class__"=some (some (.builtin "object.__class__")))
      (hn:PySem.W.specialIn K (.builtin "object.__class__") "__get__"=some (some (.builtin "getset_descriptor.__get__"))) (htk:PySem.W.takesIn K (.builtin "object.__class__")=some true)
      (hm:PySem.W.mroIn K C (.type "object")=some true):TyOf K H (.ref a) (.ref C)
end
end L2
namespace L2
open PySem PySem.Spec PyProof.Rows
structure Room (k:Nat) (A:Around):Prop where
  hd:A.handled=none
  dp:A.depth+3*k+5<recursionLimit
  un:A.units+16*k+200<cLine
  gd:A.guards=some []
theorem Room.mono {j k:Nat} {A:Around} (r:Room k A) (h:j≤k):Room j A:=⟨r.hd,by have:=r.dp;lia,by have:=r.un;lia,r.gd⟩
theorem Room.deeper {k:Nat} {A:Around} (r:Room (k+1) A) (env:Env):Room k (A.deeper env) :=
  ⟨r.hd,by have:=r.dp;show A.depth+1+3*k+5<_;lia,by have:=r.un;show A.units+3+16*k+200<_;lia,r.gd⟩
theorem Room.depth {k:Nat} {A:Around} (r:Room k A):A.depth<recursionLimit:=by have:=r.dp;lia
theorem Room.units {k:Nat} {A:Around} (r:Room k A):A.units+64<cLine:=by have:=r.un;lia
theorem Room.units0 {k:Nat} {A:Around} (r:Room k A):A.units<cLine:=by have:=r.un;lia
noncomputable def tNil:TA:=fun _ H Q=>Q [] H
noncomputable def ycC (ta:TE) (tr:TA):TA:=fun σ H Q=>ta σ H fun x H1=>tr σ H1 fun xs H2=>Q (x::xs) H2
section
variable {X:Cx} {e:Expr} {es:List Expr} {te:TE} {t:TA} {pos:Pos}
theorem zab:PA X [] tNil:=fun _ _ _ _ H Q I h=>Calls.spliced_nil ⟨[],H,I,.nil,h⟩
theorem zc2 (ha:PE X e te) (hr:PA X es t) (hs:starEach (e::es) X.env=(false,eval e X.env)::starEach es X.env:=by rfl):PA X (e::es) (ycC te t):=by
  intro pos pins s σ H Q I h
  rw [hs]
  show wpAny _ _ (spliced ((false,eval e X.env)::backTo pos (starEach es X.env))) _ _ s
  refine Calls.spliced_cons (thn (ha pins s σ H _ I h) fun u s1 ⟨x,H1,I1,r1,q1⟩=>?_)
  exact thn (hr pos pins s1 σ H1 _ I1 q1) fun us s2 ⟨xs,H2,I2,r2,q2⟩=>⟨x::xs,H2,I2,.cons r1 r2,q2⟩
noncomputable def tTup (t:TA):TE:=fun σ H Q=>t σ H fun xs H1=>xs.length≤sizeLine∧∀p,H1 p=none→Q (.ref p) (upd H1 p (.tup xs))
noncomputable def tLst (t:TA):TE:=fun σ H Q=>t σ H fun xs H1=>xs.length≤sizeLine∧∀p,H1 p=none→Q (.ref p) (upd H1 p (.lst xs))
theorem ybb {x1} (h:PA X es t):PE X (.Tuple es x1 pos) (tTup t):=by
  intro pins s σ H Q I hq
  refine wpAny_Tuple_spliced (thn (h pos pins s σ H _ I hq) fun us s1 ⟨xs,H1,I1,r,z,q⟩=>⟨by rw [←r.length];exact z,?_⟩)
  have hf:H1 s1.heap.objs.size=none:=I1.hok.fresh (Nat.le_refl _)
  refine ⟨.ref s1.heap.objs.size,upd H1 s1.heap.objs.size (.tup xs),I1.laid (t':=s1.toks) (fun b u e=>Heap.get?_push_of_some _ e) (Nat.le_refl _) ?_,rfl,q _ hf⟩
  exact ⟨z,us,r,⟨_,Heap.get?_push_size _ rfl,rfl,_,rfl⟩⟩
theorem yam (h:PA X es t):PE X (.List es pos) (tLst t):=by
  intro pins s σ H Q I hq
  refine wpAny_List_spliced (thn (h pos pins s σ H _ I hq) fun us s1 ⟨xs,H1,I1,r,z,q⟩=>⟨by rw [←r.length];exact z,?_⟩)
  have hf:H1 s1.heap.objs.size=none:=I1.hok.fresh (Nat.le_refl _)
  refine ⟨.ref s1.heap.objs.size,upd H1 s1.heap.objs.size (.lst xs),I1.laid (t':=s1.toks) (fun b u e=>Heap.get?_push_of_some _ e) (Nat.le_refl _) ?_,rfl,q _ hf⟩
  exact ⟨z,us,0,r,Heap.get?_push_size _ rfl⟩
end
noncomputable abbrev Sp:=List V→Hp→VK→XK→Prop
noncomputable abbrev CXT:=List Env→Hp→Shared→XK→Value→Shared→Prop
structure Env0 (P:Program) (w:World) (K:PySem.W.Frag) (mg:Str→Option Value) (base:Heap) (A:Around) (outer:List Env) (s:Shared) (H:Hp):Prop where
  frames:A.frames=some outer
  mod:Mod K mg base
  bs:∀b o,base.get? b=some o→s.heap.get? b=some o∧H b=none
  bsz:base.objs.size≤s.heap.objs.size
  funs:s.heap.FunFrames base outer
  frf:∀b∈frs outer,H b=none
  hok:HOk P w H s.heap
  bare:AllBare s.gens
noncomputable def CE (outer:List Env) (P:Program) (w:World) (H:Hp) (s:Shared) (Q:VK) (u:Value) (s':Shared):Prop :=
  ∃v H',s'.os=s.os∧AllBare s'.gens∧Un (frs outer) [] H H' s.heap s'.heap∧HOk P w H' s'.heap∧RelV v u∧Q v H'
noncomputable def CR (CX:CXT) (outer:List Env) (P:Program) (w:World) (H:Hp) (s:Shared) (Q:VK) (E:XK) (r:Result) (s':Shared):Prop :=
  match r with
  | .ok (.ret u)=>CE outer P w H s Q u s'
  | .ok _=>False
  | .error e=>CX outer H s E e s'
structure FnOk (P:Program) (w:World) (K:PySem.W.Frag) (mg:Str→Option Value) (base:Heap) (CX:CXT) (k:Nat) (f:Addr) (fd:FuncData) (ps:List Str) (sp:Sp):Prop where
  len:∀vs H Q E,sp vs H Q E→vs.length=ps.length
  run:∀(A:Around) (outer:List Env) (s:Shared) (H:Hp) (args:Args) (us:List Value) (vs:List V) (Q:VK) (E:XK),Room k A→Env0 P w K mg base A outer s H→BindsTo s fd args (ps.zip us)→Vals vs us→sp vs H Q E→
    codeAny (model P w) A (.call (.ref f) args) (CR CX outer P w H s Q E) s
section
variable {X:Cx} {pins:List (Addr×Obj)} {σ:St} {H:Hp} {s s':Shared}
theorem Inv.env0 (I:Inv X pins σ H s):Env0 X.prog X.w X.K X.mg X.base X.A X.stack s H :=
  ⟨I.ok.frames,I.ok.mod,I.bs,Nat.le_trans I.ok.bsz I.sz,I.stack,I.stkFree,I.hok,I.bare⟩
theorem Inv.after {Q:VK} {u:Value} (I:Inv X pins σ H s) (h:CE X.stack X.prog X.w H s Q u s'):EP X pins σ Q u s':=by
  obtain ⟨v,H',os,bare,un,hok,r,q⟩:=h
  obtain ⟨hh,g,d,t,os'⟩:=s'
  obtain rfl:os'=s.os:=os
  exact ⟨v,H',I.call (h':=hh) (g':=g) (d':=d) (t':=t) (ch:=[]) un hok bare (fun b z=>absurd z (by simp)),r,q⟩
end
noncomputable def ygy (sp:Sp) (dvs:List V) (E:XK) (t:TA):TE:=fun σ H Q=>t σ H fun vs H1=>sp (vs++dvs) H1 Q E
noncomputable def yes (K:PySem.W.Frag) (fd:FuncData) (ps:List Str) (ds:List Value):Prop :=
  ∀(s:Shared) (us:List Value),K.In s.heap→(us++ds).length=ps.length→BindsTo s fd ⟨us,[]⟩ (ps.zip (us++ds))
theorem yes.all {K:PySem.W.Frag} {fd:FuncData} {ps:List Str} (h:∀us:List Value,us.length=ps.length→bindArgs fd ⟨us,[]⟩=pure (ps.zip us)):yes K fd ps []:=fun s us _ hl=>by
  rw [List.append_nil] at hl ⊢
  exact .of_eq (h us hl)
noncomputable def zfo (CX:CXT) (X:Cx) (E:XK):Prop:=∀(pins:List (Addr×Obj)) (σ:St) (H:Hp) (s:Shared) (e:Value) (s':Shared),Inv X pins σ H s→CX X.stack H s E e s'→X.xe e s'
section
variable {X:Cx} {CX:CXT} {k:Nat} {f C:Addr} {fd:FuncData} {ps:List Str} {sp:Sp} {dvs:List V} {ds:List Value} {E:XK} {x m:Str} {p pos apos:Pos} {e o:Expr} {es:List Expr} {ta:TE} {t:TA}
theorem yhd {pins:List (Addr×Obj)} {σ:St} {H:Hp} {s:Shared} {Q:VK} {us:List Value} {vs:List V} (F:FnOk X.prog X.w X.K X.mg X.base CX k f fd ps sp) (hr:Room k X.A) (hb:yes X.K fd ps ds) (hd:Vals dvs ds) (hx:zfo CX X E)
    (I:Inv X pins σ H s) (r:Vals vs us) (h:sp (vs++dvs) H Q E):wpAny (model X.prog X.w) X.A (call (.ref f) us) (EP X pins σ Q) X.xe s:=by
  have r2:Vals (vs++dvs) (us++ds):=r.append hd
  have hl:(us++ds).length=ps.length:=by rw [←r2.length];exact F.len _ _ _ _ h
  refine wpAny_call (codeAny_mono (F.run X.A X.stack s H ⟨us,[]⟩ (us++ds) (vs++dvs) Q E hr I.env0 (hb s us I.kIn hl) r2 h) fun r s' hq=>?_)
  cases r with
  | error e=>exact hx pins σ H s e s' I hq
  | ok fl =>
    cases fl with
    | ret u=>exact I.after hq
    | next=>exact False.elim hq
    | brk=>exact False.elim hq
    | cont=>exact False.elim hq
theorem ygw (F:FnOk X.prog X.w X.K X.mg X.base CX k f fd ps sp) (hr:Room k X.A) (hg:Gl X x) (hm:X.mg x=some (.ref f)) (hk:PySem.W.keepIn X.K (.ref f)=true) (hb:yes X.K fd ps ds) (hd:Vals dvs ds) (hx:zfo CX X E)
    (ha:PA X (e::es) t) (hdb:(x==("__debug__":Str))=false:=by decide) (he:starEach (e::es) X.env=(false,eval e X.env)::starEach es X.env:=by rfl) (hpl:(backTo pos (starEach es X.env)).any (·.1)=false:=by rfl) :
    PE X (.Call (.Name x p) (e::es) [] pos) (ygy sp dvs E t):=by
  intro pins s σ H Q I h
  refine wpAny_Call_Name_kw (zgy I hg hm ?_ hdb)
  refine PySem.W.callWith_K (h₀:=X.base) I.ok.mod.kin hk (thn (ha pos pins s σ H _ I h) fun us s1 ⟨vs,H1,I1,r,q⟩=>⟨I1.kIn,?_⟩) he hpl
  exact yhd F hr hb hd hx I1 r q
structure Mk (K:PySem.W.Frag) (C f:Addr):Prop where
  makes:PySem.W.makesIn K C=true
  init:PySem.W.findIn K (.ref C) "__init__"=some (some (.ref f))
  fn:PySem.W.isFn K (.ref f)=true
  kp:PySem.W.keepIn K (.ref C)=true
end
section
variable {X:Cx} {CX:CXT} {k:Nat} {f C:Addr} {fd:FuncData} {ps ks:List Str} {sp:Sp} {E:XK} {x m:Str} {p pos apos kpos:Pos} {e o:Expr} {es:List Expr} {kws:List Keyword} {te ta:TE} {t tk:TA} {nm:Option Str}
structure KBinds (K:PySem.W.Frag) (fd:FuncData) (ps ks:List Str) (g:List Value→List Value→List Value) (gV:List V→List V→List V):Prop where
  to:∀(s:Shared) (us ws:List Value),K.In s.heap→(g us ws).length=ps.length→BindsTo s fd ⟨us,ks.zip ws⟩ (ps.zip (g us ws))
  rel:∀ {vs:List V} {us:List Value} {zs:List V} {ws:List Value},Vals vs us→Vals zs ws→Vals (gV vs zs) (g us ws)
variable {g:List Value→List Value→List Value} {gV:List V→List V→List V}
end
structure yai (N P:List Str) (sc:Scope):Prop where
  kind:sc.kind = .function
  co:sc.isCoroutine=false
  gen:sc.isGenerator=false
  nd:N.Nodup
  pre:N.take P.length=P
  par:∀x∈P,sc.names.lookup x=some .local∨sc.names.lookup x=some .cell
  nofree:∀y∈sc.names,y.2≠.free
theorem ydi {kindOf:Str→Option NameKind} {x:Str}:∀ {binds:List (Str×Value)} {m:Str→Option Value},(∀v,(x,v)∉binds)→bindL kindOf binds m x=m x
  | [],_,_=>rfl
  | (n,v)::r,m,h=>by
    unfold bindL
    rw [ydi fun w hw=>h w (List.mem_cons_of_mem _ hw)]
    split
    · have:x≠n:=by rintro rfl;exact h v List.mem_cons_self
      simp [this]
    · rfl
theorem zdu {kindOf:Str→Option NameKind} {x:Str}:∀ {binds:List (Str×Value)} {m:Str→Option Value},(∀v,(x,v)∉binds)→bindC kindOf binds m x=m x
  | [],_,_=>rfl
  | (n,v)::r,m,h=>by
    unfold bindC
    rw [zdu fun w hw=>h w (List.mem_cons_of_mem _ hw)]
    split
    · rfl
    · have:x≠n:=by rintro rfl;exact h v List.mem_cons_self
      simp [this]
theorem ydz {kindOf:Str→Option NameKind} {x:Str} {v:Value}:∀ {P:List Str} {vs:List Value} {i:Nat} {m:Str→Option Value},P.Nodup→P[i]?=some x→vs[i]?=some v→kindOf x=some .local→
    bindL kindOf (P.zip vs) m x=some v
  | [],_,_,_,_,h,_,_=>by simp at h
  | _::_,[],_,_,_,_,h,_=>by simp at h
  | p::P,w::vs,0,m,nd,h1,h2,hk=>by
    simp at h1 h2;subst h1;subst h2
    show bindL kindOf ((p,w)::P.zip vs) m p=_
    unfold bindL
    rw [ydi fun v hv=>(List.nodup_cons.mp nd).1 (List.of_mem_zip hv).1,if_pos hk]
    simp
  | p::P,w::vs,i+1,m,nd,h1,h2,hk=>by
    show bindL kindOf ((p,w)::P.zip vs) m x=_
    unfold bindL
    exact ydz (i:=i) (List.nodup_cons.mp nd).2 (by simpa using h1) (by simpa using h2) hk
theorem ydh {kindOf:Str→Option NameKind} {x:Str} {v:Value}:∀ {P:List Str} {vs:List Value} {i:Nat} {m:Str→Option Value},P.Nodup→P[i]?=some x→vs[i]?=some v→kindOf x≠some .local→
    bindC kindOf (P.zip vs) m x=some v
  | [],_,_,_,_,h,_,_=>by simp at h
  | _::_,[],_,_,_,_,h,_=>by simp at h
  | p::P,w::vs,0,m,nd,h1,h2,hk=>by
    simp at h1 h2;subst h1;subst h2
    show bindC kindOf ((p,w)::P.zip vs) m p=_
    unfold bindC
    rw [zdu fun v hv=>(List.nodup_cons.mp nd).1 (List.of_mem_zip hv).1,if_neg hk]
    simp
  | p::P,w::vs,i+1,m,nd,h1,h2,hk=>by
    show bindC kindOf ((p,w)::P.zip vs) m x=_
    unfold bindC
    exact ydh (i:=i) (List.nodup_cons.mp nd).2 (by simpa using h1) (by simpa using h2) hk
noncomputable def zdt (N:List Str) (vs:List V):St:=vs.map some++List.replicate (N.length-vs.length) none
noncomputable def cxOf (CX:CXT) (P:Program) (w:World) (K:PySem.W.Frag) (mg:Str→Option Value) (base:Heap) (N:List Str) (qual:Str) (scope:Scope) (f:Addr) (cd:Value) (A:Around) (outer:List Env) (s:Shared) (H:Hp) (E:XK):Cx where
  prog:=P
  w:=w
  K:=K
  mg:=mg
  base:=base
  A:=A.deeper (envOfC qual scope s.heap.objs.size f cd)
  N:=N
  s₀:=s
  H₀:=H
  env:=envOfC qual scope s.heap.objs.size f cd
  outer:=outer
  stack:=envOfC qual scope s.heap.objs.size f cd::outer
  ex:=[]
  calm:=true
  fn:=fun _=>true
  pn:=[]
  xe:=fun e s'=>wpAny (model P w) (A.deeper (envOfC qual scope s.heap.objs.size f cd)) (leaving (envOfC qual scope s.heap.objs.size f cd) e) (fun _ s''=>CX outer H s E e s'') (fun e' s''=>CX outer H s E e' s'') s'
theorem zea {sc:Scope} {n:Nat} {x:Str} (h:sc.names.lookup x=some .cell):∃c,(cellsFrom n sc.names []).lookup x=some c:=by
  have q:=PySem.W.cellsFrom_some sc.names n [] (.inl h)
  exact Option.isSome_iff_exists.mp q
theorem zfg {CX:CXT} {P:Program} {w:World} {K:PySem.W.Frag} {mg:Str→Option Value} {base:Heap} {N ps:List Str} {qual:Str} {scope:Scope} {f:Addr} {cd:Value} {A:Around} {outer:List Env} {s s1:Shared} {H:Hp} {E:XK} {us:List Value} {vs:List V}
    (S:yai N ps scope) (hd:A.handled=none) (e0:Env0 P w K mg base A outer s H) (hl:vs.length=ps.length) (r:Vals vs us)
    (x:InCallC s s.heap.objs.size (bindL (envOfC qual scope s.heap.objs.size f cd).kindOf (ps.zip us) fun _=>none) (cellsFrom (s.heap.objs.size+1) scope.names []) (bindC (envOfC qual scope s.heap.objs.size f cd).kindOf (ps.zip us) fun _=>none) s1) :
    Inv (cxOf CX P w K mg base N qual scope f cd A outer s H E) [] (zdt N vs) H s1:=by
  have hpl:ps.length≤N.length:=by have:=congrArg List.length S.pre;rw [List.length_take] at this;lia
  obtain ⟨h1,tk,rfl,hk⟩:=x.done
  have noA:∀b:Addr,b∉(cxOf CX P w K mg base N qual scope f cd A outer s H E).ex:=fun b z=>absurd (show b∈([]:List Addr) from z) (by simp)
  refine ⟨⟨e0.mod,S.kind,rfl,rfl,Nat.le_refl _,fun y z c h1 h2=>?_,fun y hy=>?_,fun y c _ h=>?_,fun _=>hd,Around.frames_deeper e0.frames,.inr ⟨rfl,rfl⟩,fun b z=>absurd z (noA b),e0.bs,e0.bsz,fun b _ _=>noA b,fun b z=>absurd z (noA b),e0.funs,e0.frf⟩,
    rfl,e0.bare,Un.kept hk,⟨_,x.toInCall.ns,fun i y v h1 h2 h3=>?_⟩,fun y c h=>⟨_,x.cell y c h⟩,e0.hok.fresh (Nat.le_refl _),fun y c h=>?_,fun p hp=>absurd (show p∈([]:List (Addr×Obj)) from hp) (by simp),e0.hok.kept hk,?_⟩
  · exact name_of_addr x.apart (PySem.mem_of_lookup h1) (PySem.mem_of_lookup h2)
  · have hy:scope.names.lookup y=some .cell∨scope.names.lookup y=some .free:=hy
    rcases hy with hy|hy
    · exact zea hy
    · exact absurd rfl (S.nofree _ (PySem.mem_of_lookup hy))
  · exact Nat.le_of_lt (x.above y c (PySem.mem_of_lookup h))
  · have hi:i<vs.length:=by
      unfold zdt at h2
      by_cases hi:i<vs.length
      · exact hi
      · rw [List.getElem?_append_right (by simpa using hi)] at h2
        rw [List.getElem?_replicate] at h2
        split at h2 <;> cases h2
    have ha:vs[i]?=some v:=by
      unfold zdt at h2
      rw [List.getElem?_append_left (by simpa using hi),List.getElem?_map] at h2
      cases e:vs[i]? with
      | none=>rw [e] at h2;cases h2
      | some a=>rw [e] at h2;cases h2;rfl
    obtain ⟨u,hu,rv⟩:=r.get ha
    have hp:ps[i]?=some y:=by
      rw [←S.pre,List.getElem?_take_of_lt (by lia)];exact h1
    have ndP:ps.Nodup:=by rw [←S.pre];exact S.nd.sublist (List.take_sublist _ _)
    refine ⟨u,rv,?_⟩
    rcases S.par y (List.mem_of_getElem? hp) with k|k
    · exact .inl ⟨k,ydz ndP hp hu k⟩
    · obtain ⟨c,e⟩:=zea (n:=s.heap.objs.size+1) k
      refine .inr ⟨.inl k,c,e,?_⟩
      have q:=x.cell y c e
      rw [ydh ndP hp hu (by show scope.names.lookup y≠_;rw [k];decide)] at q
      exact q
  · exact e0.hok.fresh (Nat.le_of_lt (x.above y c (PySem.mem_of_lookup h)))
  · unfold zdt
    show _=N.length
    rw [List.length_append,List.length_map,List.length_replicate]
    lia
theorem zhx {CX:CXT} {P:Program} {w:World} {K:PySem.W.Frag} {mg:Str→Option Value} {base:Heap} {k:Nat} {f:Addr} {name qual:Str} {params:Arguments} {body:List Stmt} {scope:Scope} {dV kV doc pm cdv ct oc:Value} {an od:Option Addr}
    {osl:Array (Option Value)} {N ps:List Str} {sp:Sp} (lk:K.lookup f=some ⟨oc,od,.func (PySem.W.fnOf name qual params body scope dV kV doc pm an cdv ct),osl⟩) (hcd:PySem.W.codeIn K cdv qual=true) (S:yai N ps scope)
    (len:∀vs H Q E,sp vs H Q E→vs.length=ps.length)
    (hbody:∀(A:Around) (outer:List Env) (s:Shared) (H:Hp) (vs:List V) (Q:VK) (E:XK),Room k (A.deeper (envOfC qual scope s.heap.objs.size f cdv))→sp vs H Q E→
      ∃t,PSs (cxOf CX P w K mg base N qual scope f cdv A outer s H E) body t∧t { nx:=fun _ H'=>Q .non H',rt:=Q } (zdt N vs) H) :
    FnOk P w K mg base CX (k+1) f (PySem.W.fnOf name qual params body scope dV kV doc pm an cdv ct) ps sp:=by
  refine ⟨len,fun A outer s H args us vs Q E hr e0 hb r hsp=>?_⟩
  have hl:=len _ _ _ _ hsp
  have KX:K.In s.heap:=e0.mod.kin.keeps fun b o e=>(e0.bs b o e).1
  have lim:s.heap.NoLimit:=e0.mod.nolimit.keeps fun b o e=>(e0.bs b o e).1
  have hkind:∀y∈ps.zip us,scope.names.lookup y.1=some .local∨(scope.names.lookup y.1=some .cell∧((cellsFrom (s.heap.objs.size+1) scope.names []).lookup y.1).isSome=true):=fun ⟨n,v⟩ hy=>by
    rcases S.par n (List.of_mem_zip hy).1 with q|q
    · exact .inl q
    · exact .inr ⟨q,PySem.W.cellsFrom_some _ _ _ (.inl q)⟩
  refine codeAny_call_function hr.depth (KX _ _ lk) rfl S.co S.gen rfl (PySem.W.codeRec_of KX hcd) (hb _ _ _ _ ?_)
  refine wpAny_newFunctionEnv_cells S.kind hkind fun env he s1 x=>?_
  subst he
  refine ⟨lim.keeps x.toInCall.keep,codeAny_func ?_⟩
  obtain ⟨t,ht,hq⟩:=hbody A outer s H vs Q E (hr.deeper _) hsp
  have I:Inv (cxOf CX P w K mg base N qual scope f cdv A outer s H E) [] (zdt N vs) H s1:=zfg S hr.hd e0 hl r x
  refine wpAny_mono (ht [] s1 (zdt N vs) H _ I hq) (fun fl s' hs=>?_) fun e s' hs=>hs
  have fin:∀ {σ':St} {H':Hp} {v:V} {u:Value},Inv (cxOf CX P w K mg base N qual scope f cdv A outer s H E) [] σ' H' s'→RelV v u→Q v H'→CE outer P w H s Q u s' :=
    fun {σ' H' v u} J rv q=>⟨v,H',J.os,J.bare,J.base,J.hok,rv,q⟩
  cases fl with
  | ret u =>
    obtain ⟨v,σ',H',J,rv,q⟩:=hs
    exact fin J rv q
  | next =>
    obtain ⟨σ',H',J,q⟩:=hs
    exact fin (v:=V.non) (u:=Value.none) J rfl q
  | brk =>
    obtain ⟨_,_,_,q⟩:=hs
    exact False.elim q
  | cont =>
    obtain ⟨_,_,_,q⟩:=hs
    exact False.elim q
end L2
namespace L2
open PySem PySem.Spec PyProof.Rows
section
variable {X:Cx} {x:Str} {p pos:Pos} {e:Expr} {es:List Expr} {t:TA} {id T:String} {r:List V→Hp→VK→Prop}
noncomputable def tCB (r:List V→Hp→VK→Prop) (t:TA):TE:=fun σ H Q=>t σ H fun vs H1=>r vs H1 Q
theorem zfD (hc:ybE X (.builtin id) r) (hg:Gl X x) (hm:X.mg x=none) (hv:bootBuiltins x=some (.builtin id)) (ha:PA X (e::es) t) (hn:x≠"__name__":=by decide) (hdb:(x==("__debug__":Str))=false:=by decide)
    (he:starEach (e::es) X.env=(false,eval e X.env)::starEach es X.env:=by rfl) (hpl:(backTo pos (starEach es X.env)).any (·.1)=false:=by rfl):PE X (.Call (.Name x p) (e::es) [] pos) (tCB r t):=by
  intro pins s σ H Q I h
  refine wpAny_Call_Name_kw (zbG I hg hm hv ?_ hn hdb)
  exact PyProof.Rows.callWith_builtin1 (thn (ha pos pins s σ H _ I h) fun us s1 ⟨vs,H1,I1,r1,q1⟩=>hc pins s1 σ H1 vs us Q I1 r1 q1) he hpl
theorem yfi (hc:ybE X (.type T) r) (hg:Gl X x) (hm:X.mg x=none) (hv:bootBuiltins x=some (.type T)) (ha:PA X (e::es) t) (hn:x≠"__name__":=by decide) (hdb:(x==("__debug__":Str))=false:=by decide)
    (he:starEach (e::es) X.env=(false,eval e X.env)::starEach es X.env:=by rfl) (hpl:(backTo pos (starEach es X.env)).any (·.1)=false:=by rfl):PE X (.Call (.Name x p) (e::es) [] pos) (tCB r t):=by
  intro pins s σ H Q I h
  refine wpAny_Call_Name_kw (zbG I hg hm hv ?_ hn hdb)
  exact PyProof.Rows.callWith_type1 (thn (ha pos pins s σ H _ I h) fun us s1 ⟨vs,H1,I1,r1,q1⟩=>hc pins s1 σ H1 vs us Q I1 r1 q1) he hpl
end
end L2
namespace HT
open PySem PyProof.Rows
section
variable {prog:Program} {w:World} {A:Around} {E:Value→Shared→Prop} {s:Shared}
theorem cat_tup {t b:Addr} {vs ws:List Value} {Q:Value→Shared→Prop} (ht:IsTup s.heap t vs.toArray) (hb:IsTup s.heap b ws.toArray) (hv:vs≠[])
    (h1:ws=[]→Q (.ref t) s) (h2:ws≠[]→Q (.ref s.heap.objs.size) { s with heap:=s.heap.push { cls:=.type "tuple",data:=.seq (vs++ws).toArray } })
    (hsz:vs.length+ws.length≤sizeLine):wpAny (model prog w) A (binaryOp .Add (.ref t) (.ref b)) Q E s:=by
  obtain ⟨⟨cls,dd,data,sl⟩,ho,hc,n,hd⟩:=id ht
  obtain ⟨⟨cls2,dd2,data2,sl2⟩,ho2,hc2,n2,hd2⟩:=id hb
  simp only at hc hd hc2 hd2
  subst hc hd hc2 hd2
  have e:vs.toArray++ws.toArray=(vs++ws).toArray:=by simp
  by_cases hw:ws=[]
  · exact concat_meets ⟨_,ho,rfl⟩ ⟨_,ho2,rfl⟩ noFill_tuple_add seq_tuple_add PySem.F.slot_tuple_add PySem.F.entry_tuple_add (PySem.F.args_tuple_add_2 _ _)
      (tuple_addW1 t b vs.toArray ws.toArray n n2 dd dd2 sl sl2 (by simpa using hv) (by simp [hw])) ⟨ho,ho2,h1 hw⟩
  · refine concat_meets ⟨_,ho,rfl⟩ ⟨_,ho2,rfl⟩ noFill_tuple_add seq_tuple_add PySem.F.slot_tuple_add PySem.F.entry_tuple_add (PySem.F.args_tuple_add_2 _ _)
      (tuple_addW2 t b vs.toArray ws.toArray n n2 dd dd2 sl sl2 (by simpa using hv) (by simpa using hw) (by rw [List.size_toArray,List.size_toArray];exact hsz)) ⟨ho,ho2,?_⟩
    rw [e]
    exact h2 hw
noncomputable def sIx (n d:Nat):Option Int→Nat
  | none=>d
  | some v=>if v<0 then (v+(n:Int)).toNat else min v.toNat n
theorem sIx_none (n d:Nat):sIx n d none=d:=rfl
theorem sIx_nat (n d k:Nat):sIx n d (some (k:Int))=min k n:=by
  show (if (k:Int)<0 then ((k:Int)+(n:Int)).toNat else min (k:Int).toNat n)=min k n
  rw [if_neg (by lia),Int.toNat_natCast]
theorem yg6 (n d:Nat) (hd:d≤n) (o:Option Int):sIx n d o≤n:=by
  cases o with
  | none=>exact hd
  | some v =>
    show (if v<0 then (v+(n:Int)).toNat else min v.toNat n)≤n
    by_cases hv:v<0
    · rw [if_pos hv];lia
    · rw [if_neg hv];exact Nat.min_le_right _ _
theorem ze3 (v:Int) (n d:Nat):(if v<0 then max (v+(n:Int)) 0 else min v (n:Int))=((sIx n d (some v):Nat):Int):=by
  show (if v<0 then max (v+(n:Int)) 0 else min v (n:Int))=(((if v<0 then (v+(n:Int)).toNat else min v.toNat n):Nat):Int)
  by_cases hv:v<0
  · simp only [if_pos hv];lia
  · simp only [if_neg hv];lia
theorem yer (lo hi:Option Int) (n:Nat):Builtin.Slice.sliceAdjust lo hi 1 (n:Int)=(((sIx n 0 lo:Nat):Int),((sIx n n hi:Nat):Int)):=by
  have h1:¬ ((1:Int)<0):=by lia
  unfold Builtin.Slice.sliceAdjust
  simp only [h1,if_false]
  refine Prod.ext ?_ ?_
  · cases lo with
    | none=>rfl
    | some v=>exact ze3 v n 0
  · cases hi with
    | none=>rfl
    | some v=>exact ze3 v n n
theorem yev (i j:Nat):Builtin.Slice.slicePlaces (i:Int) (j:Int) 1=j-i:=by
  unfold Builtin.Slice.slicePlaces
  have h1:(1:Int)>0:=by lia
  simp only [h1,if_true,Int.ediv_one]
  split <;> lia
theorem zcM {v:Value} {o:Option Int} {Q:Option Int→Shared→Prop} (p:IsPart v o) (h:Q o s):wpAny (model prog w) A (Builtin.Slice.slicePartIndex v) Q E s:=by
  cases p with
  | none=>exact slicePart_none h
  | int i t=>exact slicePart_int h
theorem yb9 {sl:Addr} {vl vu:Value} {lo hi:Option Int} {n:Nat} {Q:Int×Int×Nat→Shared→Prop} (hs:s.heap.IsSliceOf sl vl vu .none) (pl:IsPart vl lo) (pu:IsPart vu hi)
    (h:Q (((sIx n 0 lo:Nat):Int),1,sIx n n hi-sIx n 0 lo) s):wpAny (model prog w) A (Builtin.Slice.sliceApplied (.ref sl) (pure (n:Int))) Q E s:=by
  obtain ⟨os,hos,hcs,hds⟩:=id hs
  unfold Builtin.Slice.sliceApplied Builtin.Slice.sliceFields
  refine wpAny_bind (wpAny_bind (wpAny_field hos hds (x:=vl) rfl (wpAny_bind (wpAny_field hos hds (x:=vu) rfl (wpAny_bind (wpAny_field hos hds (x:=.none) rfl (wpAny_pure ?_)))))))
  refine wpAny_bind (slicePart_none ?_)
  show wpAny _ _ (if ((1:Int)==0)=true then _ else _) _ _ s
  rw [if_neg (by decide)]
  refine wpAny_bind (zcM pl (wpAny_bind (zcM pu (wpAny_bind (wpAny_pure ?_)))))
  show wpAny _ _ (match Builtin.Slice.sliceAdjust lo hi 1 (n:Int) with|(lo,hi)=>pure (lo,(1:Int),Builtin.Slice.slicePlaces lo hi 1)) _ _ s
  rw [yer lo hi n]
  show wpAny _ _ (pure (((sIx n 0 lo:Nat):Int),(1:Int),Builtin.Slice.slicePlaces ((sIx n 0 lo:Nat):Int) ((sIx n n hi:Nat):Int) 1)) _ _ s
  rw [yev]
  exact wpAny_pure h
theorem yfW (xs:Array Value) (i k:Nat):((List.range k).filterMap fun (m:Nat)=>xs[((i:Int)+(m:Int)*1).toNat]?).toArray=((xs.toList.drop i).take k).toArray:=by
  have e:(fun (m:Nat)=>xs[((i:Int)+(m:Int)*1).toNat]?)=fun m=>xs[i+m]?:=by
    funext m
    have:((i:Int)+(m:Int)*1).toNat=i+m:=by lia
    rw [this]
  rw [e]
  have:=pick_run xs i k
  rw [List.filterMap_map] at this
  have e2:((fun x=>xs[x]?) ∘ fun x=>i+x)=fun m=>xs[i+m]?:=rfl
  rw [e2] at this
  rw [this]
theorem getItem_tuple_cut {t sl:Addr} {items:Array Value} {vl vu:Value} {lo hi:Option Int} {Q:Value→Shared→Prop} (ht:IsTup s.heap t items) (hs:s.heap.IsSliceOf sl vl vu .none) (pl:IsPart vl lo) (pu:IsPart vu hi)
    (hw:¬ (sIx items.size 0 lo=0∧sIx items.size items.size hi=items.size))
    (h:Q (.ref s.heap.objs.size) { s with heap:=s.heap.push { cls:=.type "tuple",data:=.seq ((items.toList.drop (sIx items.size 0 lo)).take (sIx items.size items.size hi-sIx items.size 0 lo)).toArray } })
    (hsz:items.size≤sizeLine):wpAny (model prog w) A (getItem (.ref t) (.ref sl)) Q E s:=by
  have htake:sizeOk (.seq ((items.toList.drop (sIx items.size 0 lo)).take (sIx items.size items.size hi-sIx items.size 0 lo)).toArray):=by
    show ((items.toList.drop (sIx items.size 0 lo)).take (sIx items.size items.size hi-sIx items.size 0 lo)).toArray.size≤sizeLine
    rw [List.size_toArray,List.length_take,List.length_drop,Array.length_toList]
    lia
  have hj:sIx items.size items.size hi≤items.size:=yg6 _ _ (Nat.le_refl _) hi
  obtain ⟨os,hos,hcs,hds⟩:=id hs
  have hTs:s.TypeIs (.ref sl) "slice":=⟨os,hos,hcs⟩
  unfold getItem
  try with_reducible refine wpAny_holding ?_
  first|refine wpAny_bind (wpAny_pure ?_)|skip
  refine wpAny_bind (wpAny_sequenceKey ht.typeIs (by decide) ?_)
  refine wpAny_bind (wpAny_callSpecial?_slot (name:=Str.ofString "__getitem__") ht.typeIs PyProof.Rows.slot_tuple_getitem
    (wpAny_call_entry PyProof.Rows.slot_tuple_getitem ht.typeIs entry_tuple_getitem ?_ (args_tuple_getitem _ _)))
  show wpAny _ _ (Builtin.Tuple.tupleItemsOf (.ref t) >>= _) _ _ s
  refine wpAny_bind (tupleItemsOf_ ht ?_)
  refine wpAny_bind (wpAny_typeOf hTs ?_)
  rw [if_pos (by decide)]
  refine wpAny_bind (yb9 hs pl pu ?_)
  have hno:¬ ((((sIx items.size 0 lo:Nat):Int)==0&&(1:Int)==1&&(sIx items.size items.size hi-sIx items.size 0 lo)==items.size)=true):=by
    intro q
    rw [Bool.and_eq_true,Bool.and_eq_true] at q
    have q1:((sIx items.size 0 lo:Nat):Int)=0:=eq_of_beq q.1.1
    have q2:sIx items.size items.size hi-sIx items.size 0 lo=items.size:=eq_of_beq q.2
    exact hw ⟨by lia,by lia⟩
  show wpAny _ _ (if (((sIx items.size 0 lo:Nat):Int)==0&&(1:Int)==1&&(sIx items.size items.size hi-sIx items.size 0 lo)==items.size)=true then _ else _) _ _ s
  rw [if_neg hno,yfW]
  first
    | exact wpAny_bind (m:=Builtin.Tuple.tupleExact _) (wpAny_newObj_type (wpAny_pure ⟨_,rfl,wpAny_pure h⟩) htake)
    | exact wpAny_bind (m:=Builtin.Tuple.tupleExact _) (wpAny_newObj_type (wpAny_bind (wpAny_pure (wpAny_pure ⟨_,rfl,wpAny_pure h⟩))) htake)
    | exact wpAny_bind (wpAny_bind (m:=Builtin.Tuple.tupleExact _) (wpAny_newObj_type (wpAny_pure (wpAny_pure ⟨_,rfl,wpAny_pure h⟩)) htake))
    | exact wpAny_bind (wpAny_bind (m:=Builtin.Tuple.tupleExact _) (wpAny_newObj_type (wpAny_pure ⟨_,rfl,wpAny_pure h⟩) htake))
end
end HT
namespace L2
open PySem PySem.Spec PyProof.Rows
noncomputable abbrev TO:=St→Hp→(Option Int→Hp→Prop)→Prop
noncomputable def PO (X:Cx) (e:Option Expr) (t:TO):Prop :=
  ∀(pins:List (Addr×Obj)) (s:Shared) (σ:St) (H:Hp) (Q:Option Int→Hp→Prop),Inv X pins σ H s→t σ H Q→
    wpAny (model X.prog X.w) X.A (evalPart e X.env) (fun u s'=>∃o H',Inv X pins σ H' s'∧IsPart u o∧Q o H') X.xe s
noncomputable def zgO:TO:=fun _ H Q=>Q none H
noncomputable def yhk (t:TE):TO:=fun σ H Q=>t σ H fun x H1=>∃i,x = .int i∧Q (some i) H1
section
variable {X:Cx} {e:Expr} {te:TE} {lo hi:Option Expr} {tl th:TO} {pos p2:Pos}
theorem yci:PO X none zgO:=by
  intro pins s σ H Q I h
  rw [evalPart_none]
  exact wpAny_pure ⟨none,H,I,.none,h⟩
theorem zcg (h:PE X e te):PO X (some e) (yhk te):=by
  intro pins s σ H Q I hw
  rw [evalPart_some]
  refine thn (h pins s σ H _ I hw) fun u s1 ⟨x,H1,I1,r1,q1⟩=>?_
  obtain ⟨i,rfl,q⟩:=q1
  obtain ⟨t,rfl⟩:=r1
  exact ⟨some i,H1,I1,.int i t,q⟩
noncomputable def SlR (X:Cx) (r:V→Option Int→Option Int→Hp→VK→Prop):Prop :=
  ∀(pins:List (Addr×Obj)) (s:Shared) (σ:St) (H:Hp) (x:V) (v vl vu:Value) (lo hi:Option Int) (sl:Addr) (Q:VK),Inv X pins σ H s→RelV x v→s.heap.IsSliceOf sl vl vu .none→IsPart vl lo→IsPart vu hi→r x lo hi H Q→
    ∃T id,typeLookup (.type T) "__getitem__"=pure (some (.builtin id))∧s.TypeIs v T∧wpAny (model X.prog X.w) X.A (getItem v (.ref sl)) (EP X pins σ Q) X.xe s
noncomputable def tSl (r:V→Option Int→Option Int→Hp→VK→Prop) (te:TE) (tl th:TO):TE:=fun σ H Q=>te σ H fun x H1=>tl σ H1 fun l H2=>th σ H2 fun u H3=>r x l u H3 Q
theorem ybM {r:V→Option Int→Option Int→Hp→VK→Prop} (hr:SlR X r) (he:PE X e te) (hl:PO X lo tl) (hu:PO X hi th):PE X (.Subscript e (.Slice lo hi none p2) pos) (tSl r te tl th):=by
  intro pins s σ H Q I h
  refine Subscript_ (thn (he pins s σ H _ I h) fun v s1 ⟨x,H1,I1,r1,q1⟩=>?_)
  refine wpAny_Slice (thn (hl pins s1 σ H1 _ I1 q1) fun vl s2 ⟨l,H2,I2,pl,q2⟩=>thn (hu pins s2 σ H2 _ I2 q2) fun vu s3 ⟨u,H3,I3,pu,q3⟩=>?_)
  rw [evalPart_none]
  refine wpAny_pure ?_
  have I4:Inv X pins σ H3 { s3 with heap:=s3.heap.push { cls:=.type "slice",data:=.fields #[vl,vu,.none] } }:=I3.kept (t':=s3.toks) fun b ob q=>Heap.get?_push_of_some _ q
  obtain ⟨T,id,hT,ht,hg⟩:=hr pins { s3 with heap:=s3.heap.push { cls:=.type "slice",data:=.fields #[vl,vu,.none] } } σ H3 x v vl vu l u s3.heap.objs.size Q I4 r1 (Heap.IsSliceOf.new ..) pl pu q3
  show wpAny (model X.prog X.w) X.A (subscriptTail e (.Slice lo hi none p2) v (.ref s3.heap.objs.size)) (EP X pins σ Q) X.xe { s3 with heap:=s3.heap.push { cls:=.type "slice",data:=.fields #[vl,vu,.none] } }
  exact tail_any (ops:=[.ref s3.heap.objs.size,v]) ht hT hg (by with_unfolding_all rfl)
noncomputable def cutV (xs:List V) (lo hi:Option Int):List V:=(xs.drop (HT.sIx xs.length 0 lo)).take (HT.sIx xs.length xs.length hi-HT.sIx xs.length 0 lo)
theorem zcr (xs:List V) (lo hi:Option Int):(cutV xs lo hi).length≤xs.length:=by
  unfold cutV
  rw [List.length_take,List.length_drop]
  lia
noncomputable def rSlT (K:PySem.W.Frag):V→Option Int→Option Int→Hp→VK→Prop:=fun x lo hi H Q=>∃a xs,x = .ref a∧SqT K H a xs∧
  ¬ (HT.sIx xs.length 0 lo=0∧HT.sIx xs.length xs.length hi=xs.length)∧∀p,H p=none→Q (.ref p) (upd H p (.tup (cutV xs lo hi)))
theorem ygg:SlR X (rSlT X.K):=by
  intro pins s σ H x v vl vu lo hi sl Q I rx hs pl pu h
  obtain ⟨a,xs,rfl,hx,hw,q⟩:=h
  cases rx
  obtain ⟨its,r,ht,hz⟩:=I.tuple hx
  have hlen:its.toArray.size=xs.length:=by rw [List.size_toArray];exact r.length.symm
  refine ⟨"tuple",_,PyProof.Rows.slot_tuple_getitem.lookup,ht.typeIs,?_⟩
  refine HT.getItem_tuple_cut ht hs pl pu (by rw [hlen];exact hw) ?_ (by rw [hlen];exact hz)
  rw [hlen]
  refine ⟨.ref s.heap.objs.size,_,I.laid (t':=s.toks) (o:=.tup (cutV xs lo hi)) (fun b ob q=>Heap.get?_push_of_some _ q) (Nat.le_refl _) ?_,rfl,q _ (I.hok.fresh (Nat.le_refl _))⟩
  exact ⟨Nat.le_trans (zcr xs lo hi) hz,_,(r.drop (HT.sIx xs.length 0 lo)).take (HT.sIx xs.length xs.length hi-HT.sIx xs.length 0 lo),IsTup.new _ _⟩
noncomputable def zhg (K:PySem.W.Frag):R2:=fun x y H Q=>∃a b xs ys,x = .ref a∧y = .ref b∧SqT K H a xs∧SqT K H b ys∧xs≠[]∧xs.length+ys.length≤sizeLine∧
  (ys=[]→Q (.ref a) H)∧(ys≠[]→∀p,H p=none→Q (.ref p) (upd H p (.tup (xs++ys))))
theorem Vals.nil_iff {xs:List V} {us:List Value} (r:Vals xs us):us=[]↔xs=[]:=by
  cases r with
  | nil=>simp
  | cons _ _=>simp
theorem zgC:OpR X (binaryOp .Add) (zhg X.K):=by
  intro pins s σ H x y v u Q I rx ry h
  obtain ⟨a,b,xs,ys,rfl,rfl,ha,hb,hx,hz,q1,q2⟩:=h
  cases rx
  cases ry
  obtain ⟨its,r1,p1,_⟩:=I.tuple ha
  obtain ⟨its2,r2,p2,_⟩:=I.tuple hb
  refine HT.cat_tup p1 p2 (fun z=>hx (r1.nil_iff.mp z)) (fun z=>⟨.ref a,H,I,rfl,q1 (r2.nil_iff.mp z)⟩) (fun z=>?_) (by rw [←r1.length,←r2.length];exact hz)
  refine ⟨.ref s.heap.objs.size,_,I.laid (t':=s.toks) (o:=.tup (xs++ys)) (fun b ob q=>Heap.get?_push_of_some _ q) (Nat.le_refl _) ?_,rfl,q2 (fun w=>z (r2.nil_iff.mpr w)) _ (I.hok.fresh (Nat.le_refl _))⟩
  exact ⟨by rw [List.length_append];exact hz,_,r1.append r2,IsTup.new _ _⟩
end
end L2
namespace L2
open PySem PySem.Spec PyProof.Rows
noncomputable def ixN (n:Nat) (i:Int):Option Nat:=if 0≤i then (if i<n then some i.toNat else none) else if -(n:Int)≤i then some (i+n).toNat else none
noncomputable def atI {α:Type} (xs:List α) (i:Int):Option α:=(ixN xs.length i).bind fun j=>xs[j]?
theorem ydQ {n:Nat} {i:Int} {j:Nat} (h:ixN n i=some j):seqIndex? i n=some j∧j<n∧-(n:Int)≤i∧i<n:=by
  unfold ixN at h
  by_cases h0:0≤i
  · rw [if_pos h0] at h
    by_cases h1:i<n
    · rw [if_pos h1] at h
      have e:i.toNat=j:=Option.some.inj h
      exact ⟨by rw [seqIndex_of h0 h1,e],by lia,by lia,h1⟩
    · rw [if_neg h1] at h;cases h
  · rw [if_neg h0] at h
    by_cases h1 : -(n:Int)≤i
    · rw [if_pos h1] at h
      have e:(i+n).toNat=j:=Option.some.inj h
      exact ⟨by rw [seqIndex_neg (by lia) h1,e],by lia,h1,by lia⟩
    · rw [if_neg h1] at h;cases h
theorem yeB {α:Type} {xs:List α} {i:Int} {v:α} (h:atI xs i=some v):∃j,seqIndex? i xs.length=some j∧xs[j]?=some v∧j<xs.length∧-(xs.length:Int)≤i∧i<xs.length:=by
  unfold atI at h
  cases e:ixN xs.length i with
  | none=>rw [e] at h;cases h
  | some j =>
    rw [e] at h
    obtain ⟨h1,h2,h3,h4⟩:=ydQ e
    exact ⟨j,h1,h,h2,h3,h4⟩
theorem zaW {α:Type} {xs:List α} {j:Nat} {v:α} (h:xs[j]?=some v):atI xs (j:Int)=some v:=by
  have hj:j<xs.length:=(List.getElem?_eq_some_iff.mp h).1
  have e:ixN xs.length (j:Int)=some j:=by
    unfold ixN
    rw [if_pos (by lia),if_pos (by lia)];simp
  unfold atI;rw [e];exact h
noncomputable def ygD (b:Expr):Prop:=∀o i,subscripted b false o i=operate [o,i] (getItem o i)
noncomputable def IxR (X:Cx) (r:R2):Prop :=
  ∀(value slice:Expr) (pins:List (Addr×Obj)) (s:Shared) (σ:St) (H:Hp) (x y:V) (v u:Value) (Q:VK),Inv X pins σ H s→RelV x v→RelV y u→r x y H Q→
    subscripted slice false v u=operate [v,u] (getItem v u)→wpAny (model X.prog X.w) X.A (subscriptTail value slice v u) (EP X pins σ Q) X.xe s
noncomputable def MtR (X:Cx) (id:String) (r:V→List V→Hp→VK→Prop):Prop :=
  ∀(pins:List (Addr×Obj)) (s:Shared) (σ:St) (H:Hp) (x:V) (xs:List V) (v:Value) (us:List Value) (Q:VK),Inv X pins σ H s→RelV x v→Vals xs us→r x xs H Q→
    wpAny (model X.prog X.w) X.A (call (.builtin id) (v::us)) (EP X pins σ Q) X.xe s
section
variable {X:Cx} {a b:Expr} {ta tb:TE} {pos:Pos}
theorem zhu {r:R2} (hr:IxR X r) (ha:PE X a ta) (hb:PE X b tb) (hs:ygD b):PE X (.Subscript a b pos) (tOp r ta tb):=by
  intro pins s σ H Q I h
  exact Subscript_ (binT ha hb I h fun v u s2 x y H2 I2 rx ry q=>hr a b pins s2 σ H2 x y v u Q I2 rx ry q (hs _ _))
inductive GIxL (K:PySem.W.Frag) (x y:V) (H:Hp) (Q:VK):Prop
  | mk (p:Addr) (xs:List V) (i:Int) (v:V) (a:x = .ref p) (b:y = .int i) (c:SqL K H p xs) (d:atI xs i=some v) (q:Q v H):GIxL K x y H Q
noncomputable def rIxL (K:PySem.W.Frag):R2:=fun x y H Q=>GIxL K x y H Q
inductive GIxT (K:PySem.W.Frag) (x y:V) (H:Hp) (Q:VK):Prop
  | mk (p:Addr) (xs:List V) (i:Int) (v:V) (a:x = .ref p) (b:y = .int i) (c:SqT K H p xs) (d:atI xs i=some v) (q:Q v H):GIxT K x y H Q
noncomputable def rIxT (K:PySem.W.Frag):R2:=fun x y H Q=>GIxT K x y H Q
theorem zai:IxR X (rIxL X.K):=by
  intro value slice pins s σ H x y v u Q I rx ry h hs
  obtain ⟨p,xs,i,z,rfl,rfl,hq,he,q⟩:=h
  cases rx
  obtain ⟨t,rfl⟩:=ry
  obtain ⟨its,r,pl,hz⟩:=I.list hq
  obtain ⟨j,h1,h2,h3,h4,h5⟩:=yeB he
  obtain ⟨w,ew,rw'⟩:=r.get h2
  have hl:=r.length
  have hn:=yea
  have fin:EP X pins σ Q w s:=⟨z,H,I,rw',q⟩
  by_cases h0:0≤i
  · have hj:i.toNat=j:=by
      rw [seqIndex_of h0 h5] at h1
      exact Option.some.inj h1
    exact item_listR pl.isList h0 (by lia) (by rw [hj];simpa using ew) fin hs
  · have hj:(i+(its.toArray.size:Int)).toNat=j:=by
      rw [seqIndex_neg (by lia) h4] at h1
      rw [List.size_toArray,←hl]
      exact Option.some.inj h1
    exact subscriptTail_builtinR (x:=w) pl.isList.typeIs slot_list_getitem.lookup
      (wpAny_getItem_list_neg (Q:=fun r s'=>r=w∧EP X pins σ Q r s') pl.isList (by lia) (by rw [List.size_toArray] <;> lia) (by lia) (by rw [hj];simpa using ew) ⟨rfl,fin⟩) hs
theorem yas:IxR X (rIxT X.K):=by
  intro value slice pins s σ H x y v u Q I rx ry h hs
  obtain ⟨p,xs,i,z,rfl,rfl,hq,he,q⟩:=h
  cases rx
  obtain ⟨t,rfl⟩:=ry
  obtain ⟨its,r,pl,hz⟩:=I.tuple hq
  obtain ⟨j,h1,h2,h3,h4,h5⟩:=yeB he
  obtain ⟨w,ew,rw'⟩:=r.get h2
  have hl:=r.length
  have hn:=yea
  have fin:EP X pins σ Q w s:=⟨z,H,I,rw',q⟩
  exact subscriptTail_builtinR (x:=w) pl.typeIs slot_tuple_getitem.lookup
    (getItem_tuple (j:=j) (Q:=fun r s'=>r=w∧EP X pins σ Q r s') pl (by lia) (by lia) (by rw [List.size_toArray,←hl];exact h1) (by simpa using ew) ⟨rfl,fin⟩) hs
theorem zew (its:List Value) (n j:Nat) (u:Value):Obj.mapSeq (·.setIfInBounds j u) { cls:=.type "list",data:=.seq its.toArray n }={ cls:=.type "list",data:=.seq (its.set j u).toArray n }:=by
  simp [Obj.mapSeq]
theorem Inv.lst {pins:List (Addr×Obj)} {σ:St} {H:Hp} {s:Shared} {p:Addr} {xs:List V} (I:Inv X pins σ H s) (h:H p=some (.lst xs)) :
    ∃(its:List Value) (n:Nat),Vals xs its∧s.heap.get? p=some { cls:=.type "list",data:=.seq its.toArray n }∧xs.length≤sizeLine:=by
  obtain ⟨z,its,n,r,e⟩:=I.hok p _ h
  exact ⟨its,n,r,e,z⟩
theorem Inv.lstUpd {pins:List (Addr×Obj)} {σ:St} {H:Hp} {s:Shared} {p:Addr} {xs ys:List V} {its its':List Value} {n n':Nat} {f:Obj→Obj} (I:Inv X pins σ H s) (h:H p=some (.lst xs))
    (ho:s.heap.get? p=some { cls:=.type "list",data:=.seq its.toArray n }) (hf:f { cls:=.type "list",data:=.seq its.toArray n }={ cls:=.type "list",data:=.seq its'.toArray n' }) (r:Vals ys its') (hz:ys.length≤sizeLine) (t:Nat) :
    Inv X pins σ (upd H p (.lst ys)) { s with heap:=s.heap.update p f,toks:=t }:=by
  have e:(s.heap.update p f).get? p=some { cls:=.type "list",data:=.seq its'.toArray n' }:=by
    rw [Heap.get?_update_self f ho (by rw [hf] <;> rfl),hf]
  refine I.write (x:=p) (e:=p) (by rw [h];trivial) (.inl rfl) (fun b u hb q=>(Heap.get?_update_other _ _ (Ne.symm hb)).trans q) ⟨_,e⟩ ?_
  exact ⟨hz,its',n',r,e⟩
noncomputable def zhi:V→V→V→Hp→(Hp→Prop)→Prop:=fun o i v H Q=>∃p xs k j,o = .ref p∧i = .int k∧H p=some (.lst xs)∧ixN xs.length k=some j∧Q (upd H p (.lst (xs.set j v)))
theorem zbD:PSet X zhi:=by
  intro pins s σ H o i v ov iv u Q I ro ri rv h
  obtain ⟨p,xs,k,j,rfl,rfl,hp,hj,q⟩:=h
  cases ro
  obtain ⟨t,rfl⟩:=ri
  obtain ⟨its,n,r,ho,hz⟩:=I.lst hp
  obtain ⟨h1,h2,h3,h4⟩:=ydQ hj
  have hl:=r.length
  have hn:=yea
  have I':Inv X pins σ (upd H p (.lst (xs.set j v))) { s with heap:=s.heap.update p (Obj.mapSeq (·.setIfInBounds j u)) } :=
    I.lstUpd hp ho (zew its n j u) (r.set rv j) (by rw [List.length_set];exact hz) s.toks
  by_cases h0:0≤k
  · have hk:k.toNat=j:=by
      rw [seqIndex_of h0 h4] at h1
      exact Option.some.inj h1
    exact PySem.W.ki_setAt ho h0 (by lia) (by rw [List.size_toArray,←hl];exact h4) (by rw [hk];exact ⟨_,I',q⟩)
  · have hk:(k+(its.toArray.size:Int)).toNat=j:=by
      rw [seqIndex_neg (by lia) h3] at h1
      rw [List.size_toArray,←hl]
      exact Option.some.inj h1
    exact PySem.W.ki_setBack ho (by lia) (by rw [List.size_toArray,←hl];exact h3) (by lia) (by rw [hk];exact ⟨_,I',q⟩)
theorem ydq (lo hi:Option Int) (n:Nat):(sliceBounds lo hi none n).1=((HT.sIx n 0 lo:Nat):Int)∧(sliceBounds lo hi none n).2.1=((HT.sIx n n hi:Nat):Int)∧(sliceBounds lo hi none n).2.2=1:=by
  refine ⟨?_,?_,rfl⟩
  · cases lo with
    | none=>simp [sliceBounds,HT.sIx]
    | some i =>
      simp only [sliceBounds,HT.sIx,Option.getD_none,show (1:Int)>0 by decide,if_true]
      by_cases h:i<0
      · simp only [h,if_true] <;> lia
      · simp only [h,if_false] <;> lia
  · cases hi with
    | none=>simp [sliceBounds,HT.sIx]
    | some i =>
      simp only [sliceBounds,HT.sIx,Option.getD_none,show (1:Int)>0 by decide,if_true]
      by_cases h:i<0
      · simp only [h,if_true] <;> lia
      · simp only [h,if_false] <;> lia
theorem zcY (its:List Value) (lo hi:Option Int):slicePick its.toArray lo hi none=((its.drop (HT.sIx its.length 0 lo)).take (HT.sIx its.length its.length hi-HT.sIx its.length 0 lo)).toArray:=by
  obtain ⟨h1,h2,h3⟩:=ydq lo hi its.toArray.size
  unfold slicePick
  rw [h1,h2,h3]
  simp only [sliceRange_one,pick_run,List.size_toArray] <;> rfl
noncomputable def rSlL (K:PySem.W.Frag):V→Option Int→Option Int→Hp→VK→Prop:=fun x lo hi H Q=>∃a xs,x = .ref a∧SqL K H a xs∧∀p,H p=none→Q (.ref p) (upd H p (.lst (cutV xs lo hi)))
theorem zdF:SlR X (rSlL X.K):=by
  intro pins s σ H x v vl vu lo hi sl Q I rx hs pl pu h
  obtain ⟨a,xs,rfl,hx,q⟩:=h
  cases rx
  obtain ⟨its,r,ht,hz⟩:=I.list hx
  have hlen:=r.length
  refine ⟨"list",_,slot_list_getitem.lookup,ht.isList.typeIs,?_⟩
  refine wpAny_getItem_list_slice ht.isList hs pl pu .none (by simp) ?_ (by rw [List.size_toArray] <;> lia)
  rw [zcY,←hlen]
  refine ⟨.ref s.heap.objs.size,_,I.laid (t':=s.toks) (o:=.lst (cutV xs lo hi)) (fun b ob q=>Heap.get?_push_of_some _ q) (Nat.le_refl _) ?_,rfl,q _ (I.hok.fresh (Nat.le_refl _))⟩
  exact ⟨Nat.le_trans (zcr xs lo hi) hz,_,0,(r.drop (HT.sIx xs.length 0 lo)).take (HT.sIx xs.length xs.length hi-HT.sIx xs.length 0 lo),Heap.get?_push_size _ rfl⟩
noncomputable def ycR:V→Bool
  | .non=>true
  | .bl _=>true
  | .int _=>true
  | .str _=>true
  | _=>false
noncomputable def eqV:V→V→Bool
  | .non,.non=>true
  | .bl a,.bl b=>a==b
  | .bl a,.int b=>(if a then 1 else 0)==b
  | .int a,.bl b=>a==(if b then 1 else 0)
  | .int a,.int b=>a==b
  | .str a,.str b=>a==b
  | _,_=>false
theorem ygQ {A:Around} {s:Shared} {y x:V} {u v:Value} (ry:RelV y u) (rx:RelV x v) (fy:ycR y=true) (fx:ycR x=true):SeqAt.EqAt A s u v (eqV y x):=by
  cases y with
  | non =>
    cases ry
    cases x with
    | non=>cases rx;exact SeqAt.EqAt.same _
    | bl b=>cases rx;exact SeqAt.EqAt.none_bool b
    | int b=>obtain ⟨t,rfl⟩:=rx;exact SeqAt.EqAt.none_int b t
    | str b=>obtain ⟨t,rfl⟩:=rx;exact SeqAt.EqAt.none_str b t
    | _=>exact absurd (show false=true from fx) Bool.false_ne_true
  | bl a =>
    cases ry
    cases x with
    | non=>cases rx;exact SeqAt.EqAt.bool_none a
    | bl b=>cases rx;exact SeqAt.EqAt.bool_bool a b
    | int b=>obtain ⟨t,rfl⟩:=rx;exact SeqAt.EqAt.bool_int a b t
    | str b=>obtain ⟨t,rfl⟩:=rx;exact SeqAt.EqAt.bool_str a b t
    | _=>exact absurd (show false=true from fx) Bool.false_ne_true
  | int a =>
    obtain ⟨t',rfl⟩:=ry
    cases x with
    | non=>cases rx;exact SeqAt.EqAt.int_none a t'
    | bl b=>cases rx;exact SeqAt.EqAt.int_bool a t' b
    | int b=>obtain ⟨t,rfl⟩:=rx;exact SeqAt.EqAt.int_int a t' b t
    | str b=>obtain ⟨t,rfl⟩:=rx;exact SeqAt.EqAt.int_str a t' b t
    | _=>exact absurd (show false=true from fx) Bool.false_ne_true
  | str a =>
    obtain ⟨t',rfl⟩:=ry
    cases x with
    | non=>cases rx;exact SeqAt.EqAt.str_none a t'
    | bl b=>cases rx;exact SeqAt.EqAt.str_bool a t' b
    | int b=>obtain ⟨t,rfl⟩:=rx;exact SeqAt.EqAt.str_int a t' b t
    | str b=>obtain ⟨t,rfl⟩:=rx;exact SeqAt.EqAt.str_str a t' b t
    | _=>exact absurd (show false=true from fx) Bool.false_ne_true
  | _=>exact absurd (show false=true from fy) Bool.false_ne_true
noncomputable def eqU (x:V) (u:Value):Bool:=match u with
  | .none=>eqV .non x
  | .bool b=>eqV (.bl b) x
  | .int i _=>eqV (.int i) x
  | .str z _=>eqV (.str z) x
  | _=>false
theorem zf4 {x y:V} {u:Value} (r:RelV y u) (f:ycR y=true):eqU x u=eqV y x:=by
  cases y with
  | non=>cases r;rfl
  | bl b=>cases r;rfl
  | int i=>obtain ⟨t,rfl⟩:=r;rfl
  | str z=>obtain ⟨t,rfl⟩:=r;rfl
  | _=>exact absurd (show false=true from f) Bool.false_ne_true
theorem zdL {x:V}:∀ {xs:List V} {us:List Value},Vals xs us→xs.all ycR=true→us.any (eqU x)=xs.any fun y=>eqV y x
  | _,_,.nil,_=>rfl
  | y::xs,u::us,.cons r t,f=>by
    rw [List.all_cons,Bool.and_eq_true] at f
    rw [List.any_cons,List.any_cons,zf4 r f.1,zdL t f.2]
theorem yc8 {A:Around} {s:Shared} {x:V} {v:Value} (rx:RelV x v) (fx:ycR x=true):∀ {xs:List V} {us:List Value},Vals xs us→xs.all ycR=true→∀u∈us,SeqAt.EqAt A s u v (eqU x u)
  | _,_,.nil,_=>fun u hu=>by cases hu
  | y::xs,u::us,.cons r t,f=>fun u' hu=>by
    rw [List.all_cons,Bool.and_eq_true] at f
    rcases List.mem_cons.mp hu with rfl|hu
    · rw [zf4 r f.1];exact ygQ r rx f.1 fx
    · exact yc8 rx fx t f.2 u' hu
noncomputable def inV (x:V) (xs:List V):Bool:=xs.any fun y=>eqV y x
inductive GIn (K:PySem.W.Frag) (neg:Bool) (x y:V) (H:Hp) (Q:VK):Prop
  | mk (p:Addr) (xs:List V) (a:y = .ref p) (b:SqL K H p xs∨SqT K H p xs) (c:ycR x=true) (d:xs.all ycR=true) (q:Q (.bl (if neg then !inV x xs else inV x xs)) H):GIn K neg x y H Q
noncomputable def rIn (K:PySem.W.Frag) (neg:Bool):R2:=fun x y H Q=>GIn K neg x y H Q
theorem zb8:OpR X (compareOp .NotIn) (rIn X.K true):=by
  intro pins s σ H x y v u Q I rx ry h
  obtain ⟨p,xs,rfl,hq,fx,fs,q⟩:=h
  cases ry
  rcases hq with hq|hq
  · obtain ⟨its,r,pl,hz⟩:=I.list hq
    refine SeqAt.notIn_listAt (eqU x) pl.isList (fun w hw=>yc8 rx fx r fs w (by simpa using hw)) ⟨.bl _,H,I,rfl,?_⟩
    rw [show its.toArray.any (eqU x)=its.any (eqU x) by simp,zdL r fs]
    exact q
  · obtain ⟨its,r,pl,hz⟩:=I.tuple hq
    refine SeqAt.notIn_tupleAt (eqU x) pl (fun w hw=>yc8 rx fx r fs w (by simpa using hw)) ⟨.bl _,H,I,rfl,?_⟩
    rw [show its.toArray.any (eqU x)=its.any (eqU x) by simp,zdL r fs]
    exact q
inductive GLen (K:PySem.W.Frag) (xs:List V) (H:Hp) (Q:VK):Prop
  | mk (p:Addr) (ys:List V) (e:xs=[.ref p]) (h:SqL K H p ys∨SqT K H p ys) (q:Q (.int ys.length) H):GLen K xs H Q
theorem yal:ybE X (.builtin "len") (fun xs H Q=>GLen X.K xs H Q):=by
  intro pins s σ H xs us Q I r h
  obtain ⟨p,ys,rfl,hq,q⟩:=h
  obtain ⟨u,rfl,rx⟩:=yb1 r
  cases rx
  have hn:=yea
  rcases hq with hq|hq
  · obtain ⟨its,r',pl,hz⟩:=I.list hq
    have hlen:=r'.length
    exact Calls.call_len_list pl.isList (by simp only [List.size_toArray] <;> lia) ⟨.int ys.length,H,I.tok _,⟨s.toks+1,by rw [List.size_toArray,hlen]⟩,q⟩
  · obtain ⟨its,r',pl,hz⟩:=I.tuple hq
    have hlen:=r'.length
    exact len_tuple pl (by simp only [List.size_toArray] <;> lia) ⟨.int ys.length,H,I.tok _,⟨s.toks+1,by rw [List.size_toArray,hlen]⟩,q⟩
theorem zdk:ybE X (.type "list") (fun xs H Q=>∃p ys,xs=[.ref p]∧(SqL X.K H p ys∨SqT X.K H p ys)∧∀l,H l=none→Q (.ref l) (upd H l (.lst ys))):=by
  intro pins s σ H xs us Q I r h
  obtain ⟨p,ys,rfl,hq,q⟩:=h
  obtain ⟨u,rfl,rx⟩:=yb1 r
  cases rx
  have fin:∀(its:List Value),Vals ys its→ys.length≤sizeLine→∀(h':Heap) (c':Nat),(∀b o',s.heap.get? b=some o'→h'.get? b=some o')→
      h'.get? s.heap.objs.size=some { cls:=.type "list",dict:=none,data:=.seq its.toArray c',slots:=#[] }→EP X pins σ Q (.ref s.heap.objs.size) { s with heap:=h' }:=fun its r' hz h' c' kp e =>
    ⟨.ref s.heap.objs.size,_,I.laid (t':=s.toks) kp (Nat.le_refl _) (show zaX X.prog X.w _ h' _ (.lst ys) from ⟨hz,its,c',r',e⟩),rfl,q _ (I.hok.fresh (Nat.le_refl _))⟩
  rcases hq with hq|hq
  · obtain ⟨its,r',pl,hz⟩:=I.list hq
    have hlen:=r'.length
    obtain ⟨o,ho,hc,n,hd⟩:=pl.isList
    exact call_list_seq p (.inl rfl) ho hc hd (fun h' c' kp e=>fin its r' hz h' c' kp e) (by simp only [List.size_toArray] <;> lia)
  · obtain ⟨its,r',pl,hz⟩:=I.tuple hq
    have hlen:=r'.length
    obtain ⟨o,ho,hc,n,hd⟩:=pl
    exact call_list_seq p (.inr rfl) ho hc hd (fun h' c' kp e=>fin its r' hz h' c' kp e) (by simp only [List.size_toArray] <;> lia)
theorem zav:ybE X (.type "tuple") (fun xs H Q=>∃p ys,xs=[.ref p]∧((SqL X.K H p ys∧∀l,H l=none→Q (.ref l) (upd H l (.tup ys)))∨(SqT X.K H p ys∧Q (.ref p) H))):=by
  intro pins s σ H xs us Q I r h
  obtain ⟨p,ys,rfl,h⟩:=h
  obtain ⟨u,rfl,rx⟩:=yb1 r
  cases rx
  rcases h with ⟨hq,q⟩ | ⟨hq,q⟩
  · obtain ⟨its,r',pl,hz⟩:=I.list hq
    have hlen:=r'.length
    refine call_tuple_list pl.isList (fun h' kp=>?_) (by simp only [List.size_toArray] <;> lia)
    have I1:Inv X pins σ H { s with heap:=h' }:=I.kept (t':=s.toks) kp
    have I2:Inv X pins σ (upd H h'.objs.size (.tup ys)) { s with heap:=h'.push { cls:=.type "tuple",data:=.seq its.toArray } } :=
      I1.laid (t':=s.toks) (fun b o e=>Heap.get?_push_of_some _ e) (Nat.le_refl _) (show zaX X.prog X.w _ _ _ (.tup ys) from ⟨hz,its,r',IsTup.new _ _⟩)
    exact ⟨.ref h'.objs.size,_,I2,rfl,q _ (I1.hok.fresh (Nat.le_refl _))⟩
  · obtain ⟨its,r',pl,hz⟩:=I.tuple hq
    exact call_tuple_same pl ⟨.ref p,H,I,rfl,q⟩
noncomputable def tyV (K:PySem.W.Frag) (T:String) (x:V) (H:Hp):Prop:=match x with
  | .str _=>T = "str"
  | .int _=>T = "int"
  | .ref p=>(T = "list"∧∃xs,SqL K H p xs)∨(T = "tuple"∧∃o,K.lookup p=some o∧o.cls = .type "tuple"∧o.dict=none)∨
      (T = "dict"∧((∃kvs,H p=some (.dK kvs))∨∃kvs,H p=some (.dT kvs)))∨(T = "set"∧∃S n,H p=some (.set S n))
  | _=>False
theorem yg4 {pins:List (Addr×Obj)} {σ:St} {H:Hp} {s:Shared} {T:String} {x:V} {v:Value} (I:Inv X pins σ H s) (r:RelV x v) (ty:tyV X.K T x H) :
    s.TypeIs v T∧∀a,v = .ref a→∃ob,s.heap.get? a=some ob∧ob.dict=none:=by
  cases x with
  | str z =>
    obtain ⟨t,rfl⟩:=r
    cases (show T = "str" from ty)
    exact ⟨typeIs_str s z t,fun _ e=>nomatch e⟩
  | int i =>
    obtain ⟨t,rfl⟩:=r
    cases (show T = "int" from ty)
    exact ⟨typeIs_int s i t,fun _ e=>nomatch e⟩
  | ref p =>
    cases r
    rcases ty with ⟨rfl,xs,hq⟩ | ⟨rfl,o,hk,hc,hd⟩ | ⟨rfl,hk⟩ | ⟨rfl,S,n,hk⟩
    · obtain ⟨its,_,pl,_⟩:=I.list hq
      refine ⟨pl.isList.typeIs,fun a e=>?_⟩
      cases e
      obtain ⟨o,n,e,c,hd,_⟩:=pl
      exact ⟨o,e,hd⟩
    · refine ⟨⟨o,I.kIn p o hk,hc⟩,fun a e=>?_⟩
      cases e
      exact ⟨o,I.kIn _ o hk,hd⟩
    · have z:∃o,s.heap.get? p=some o∧o.ExactDict:=by
        rcases hk with ⟨kvs,hk⟩ | ⟨kvs,hk⟩
        · obtain ⟨_,_,_,_,o,_,_,e,ex,_⟩:=I.hok p _ hk
          exact ⟨o,e,ex⟩
        · obtain ⟨_,_,_,_,o,_,_,e,ex,_⟩:=I.hok p _ hk
          exact ⟨o,e,ex⟩
      obtain ⟨o,e,ex⟩:=z
      refine ⟨⟨o,e,ex.1⟩,fun a e2=>?_⟩
      cases e2
      exact ⟨o,e,ex.2.1⟩
    · obtain ⟨o,_,_,_,e,ex,_⟩:=I.hok p _ hk
      refine ⟨⟨o,e,ex.1⟩,fun a e2=>?_⟩
      cases e2
      exact ⟨o,e,ex.2.1⟩
  | _=>exact False.elim ty
noncomputable def tBM (K:PySem.W.Frag) (T:String) (r:V→List V→Hp→VK→Prop) (to:TE) (t:TA):TE:=fun σ H Q=>to σ H fun x H1=>tyV K T x H1∧t σ H1 fun xs H2=>r x xs H2 Q
variable {o e:Expr} {es:List Expr} {to:TE} {t:TA} {name:Str} {apos cpos:Pos} {T id:String} {r:V→List V→Hp→VK→Prop}
theorem zet (pa:PlainAttrs T) (slot:Slot T name id) (hty:typeOf (.builtin id)=pure (.type "method_descriptor")) (hm:MtR X id r) (ho:PE X o to) (ha:PA X (e::es) t)
    (hbase:attributeBase o name X.env (eval o X.env)=eval o X.env:=by rfl)
    (hfew:((backTo cpos (starEach (e::es) X.env)).all (fun x=>!x.1)&&(backToKw cpos (keywordEach [] X.env)).all (fun x=>x.1.isSome)
      && decide ((e::es).length+([]:List Keyword).length+(if ([]:List Keyword).isEmpty then 0 else 1)<30))=true:=by rfl)
    (hline:(apos.endLine==cpos.line)=true:=by rfl) (hs:starEach (e::es) X.env=(false,eval e X.env)::starEach es X.env:=by rfl) (hplain:(backTo cpos (starEach es X.env)).any (·.1)=false:=by rfl) :
    PE X (.Call (.Attribute o name apos) (e::es) [] cpos) (tBM X.K T r to t):=by
  intro pins s σ H Q I h
  refine wpAny_Call_method_late hbase hfew hline rfl (thn (ho pins s σ H _ I h) fun v s1 ⟨x,H1,I1,r1,ty,q1⟩=>?_)
  obtain ⟨h1,h2⟩:=yg4 I1 r1 ty
  refine ⟨T,id,pa,slot,hty,h1,h2,?_⟩
  have hA:=ha cpos pins s1 σ H1 _ I1 q1
  rw [hs] at hA ⊢
  refine Calls.callWith_builtin (by show (false||(backTo cpos (starEach es X.env)).any (·.1))=false;rw [hplain] <;> rfl) (Calls.evalArgs_plain ?_)
  exact thn hA fun us s2 ⟨vs,H2,I2,r2,q2⟩=>hm pins s2 σ H2 x vs v us Q I2 r1 r2 q2
end
end L2
namespace L2
open PySem PySem.Spec PyProof.Rows
noncomputable def MtM (X:Cx) (id:String) (r:V→List V→Hp→VK→Prop):Prop :=
  ∀(pins:List (Addr×Obj)) (s:Shared) (σ:St) (H:Hp) (x:V) (xs:List V) (v:Value) (us:List Value) (Q:VK),Inv X pins σ H s→RelV x v→Vals xs us→r x xs H Q→
    wpAny (model X.prog X.w) X.A (call (.builtin id) (v::us)) (EP X pins σ Q) X.xe s
theorem Vals.one:∀ {x:V} {us:List Value},Vals [x] us→∃u,us=[u]∧RelV x u
  | _,_,.cons r .nil=>⟨_,rfl,r⟩
theorem Vals.zero:∀ {us:List Value},Vals [] us→us=[]
  | _,.nil=>rfl
theorem Vals.dropLast {xs:List V} {us:List Value} (h:Vals xs us):Vals xs.dropLast us.dropLast:=by
  induction h with
  | nil=>exact .nil
  | cons r t ih =>
    cases t with
    | nil=>exact .nil
    | cons q t'=>exact .cons r ih
theorem Vals.eraseIdx:∀ {xs:List V} {us:List Value} (i:Nat),Vals xs us→Vals (xs.eraseIdx i) (us.eraseIdx i)
  | _,_,_,.nil=>.nil
  | _,_,0,.cons _ t=>t
  | _,_,i+1,.cons r t=>.cons r (Vals.eraseIdx i t)
theorem Vals.reverse {xs:List V} {us:List Value} (h:Vals xs us):Vals xs.reverse us.reverse:=by
  induction h with
  | nil=>exact .nil
  | cons r t ih=>rw [List.reverse_cons,List.reverse_cons];exact Vals.append ih (.cons r .nil)
theorem Vals.rep {xs:List V} {us:List Value} (h:Vals xs us):∀k:Nat,Vals (List.replicate k xs).flatten (List.replicate k us).flatten
  | 0=>.nil
  | k+1=>by
    rw [List.replicate_succ,List.replicate_succ,List.flatten_cons,List.flatten_cons]
    exact Vals.append h (Vals.rep h k)
theorem yeu {α:Type} (l:List α):l.eraseIdx (l.length-1)=l.dropLast:=by
  induction l with
  | nil=>rfl
  | cons a r ih =>
    cases r with
    | nil=>rfl
    | cons b r =>
      have e:(a::b::r).length-1=((b::r).length-1)+1:=by
        have h1:(a::b::r).length=r.length+2:=rfl
        have h2:(b::r).length=r.length+1:=rfl
        lia
      rw [e,List.eraseIdx_cons_succ,ih]
      all_goals rfl
theorem ydr {α:Type}:∀(l:List α) (i:Nat),(l.eraseIdx i).length≤l.length
  | [],_=>Nat.le_refl _
  | _::_,0=>Nat.le_succ _
  | _::r,i+1=>Nat.succ_le_succ (ydr r i)
theorem ycA (its:List Value):∀(k:Nat) (acc:List Value),
    List.foldl (fun x1 x2=>x1++x2) acc.toArray (List.replicate k its.toArray)=(acc++(List.replicate k its).flatten).toArray
  | 0,acc=>by simp
  | k+1,acc=>by
    have e:acc.toArray++its.toArray=(acc++its).toArray:=by simp
    have e2:(acc++its)++(List.replicate k its).flatten=acc++(List.replicate (k+1) its).flatten:=by
      rw [List.replicate_succ,List.flatten_cons,List.append_assoc]
    rw [←e2,←ycA its k (acc++its),←e,List.replicate_succ,List.foldl_cons]
section
variable {X:Cx} {pins:List (Addr×Obj)} {σ:St} {H:Hp} {s:Shared} {l b:Addr} {xs ys zs:List V}
theorem Inv.lset {its its':List Value} {n:Nat} {f:Array Value→Array Value} {t':Nat} (I:Inv X pins σ H s) (hH:H l=some (.lst xs))
    (e:s.heap.get? l=some { cls:=.type "list",data:=.seq its.toArray n }) (hf:f its.toArray=its'.toArray) (hv:Vals ys its') (hz:ys.length≤sizeLine) :
    Inv X pins σ (upd H l (.lst ys)) { s with heap:=s.heap.update l (Obj.mapSeq f),toks:=t' }:=by
  have q:=PySem.IsL.update e f
  rw [hf] at q
  refine I.write (x:=l) (e:=l) (by rw [hH];exact trivial) (.inl rfl) (fun b' u hb hu=>(Heap.get?_update_other s.heap (Obj.mapSeq f) (Ne.symm hb)).trans hu) ⟨_,q⟩ ?_
  exact ⟨hz,its',_,hv,q⟩
theorem Inv.lnew {its:List Value} {t':Nat} (I:Inv X pins σ H s) (hv:Vals ys its) (hz:ys.length≤sizeLine) :
    Inv X pins σ (upd H s.heap.objs.size (.lst ys)) { s with heap:=s.heap.push { cls:=.type "list",data:=.seq its.toArray },toks:=t' } :=
  I.laid (fun _ _ q=>Heap.get?_push_of_some _ q) (Nat.le_refl _) ⟨hz,its,0,hv,Heap.get?_push_size _ rfl⟩
theorem Inv.fresh (I:Inv X pins σ H s):H s.heap.objs.size=none:=I.hok.fresh (Nat.le_refl _)
theorem Inv.lstM (I:Inv X pins σ H s) (hH:H l=some (.lst xs)):xs.length≤sizeLine∧∃(its:List Value) (n:Nat),Vals xs its∧xs.length=its.length∧s.heap.get? l=some { cls:=.type "list",data:=.seq its.toArray n }:=by
  obtain ⟨z,its,n,r,e⟩:=I.hok l _ hH
  exact ⟨z,its,n,r,r.length,e⟩
theorem zeh {n:Nat} (h:n≤sizeLine):Builtin.List.listTooLong n=false:=by
  unfold Builtin.List.listTooLong
  exact decide_eq_false (by lia)
end
section
variable {X:Cx}
noncomputable def zgI:V→List V→Hp→VK→Prop:=fun x vs H Q=>∃l xs y,x = .ref l∧vs=[y]∧H l=some (.lst xs)∧xs.length<sizeLine∧Q .non (upd H l (.lst (xs++[y])))
theorem ybP:MtM X "list.append" zgI:=by
  intro pins s σ H x vs v us Q I rx rv h
  obtain ⟨l,xs,y,rfl,rfl,hH,hz,q⟩:=h
  cases rx
  obtain ⟨u,rfl,ru⟩:=rv.one
  obtain ⟨z,its,n,r,hl,e⟩:=I.lstM hH
  refine call_meets F.slot_list_append ⟨_,e,rfl⟩ F.entry_list_append (F.args_list_append_2 _ _) (PySem.list_append l its.toArray n u (by rw [List.size_toArray];lia)) ⟨e,?_⟩
  refine ⟨.non,_,I.lset (its':=its++[u]) hH e (by simp) (r.append (.cons ru .nil)) ?_,rfl,q⟩
  rw [List.length_append,List.length_singleton]
  lia
noncomputable def ygj:V→List V→Hp→VK→Prop:=fun x vs H Q=>∃l b xs zs,x = .ref l∧vs=[.ref b]∧H l=some (.lst xs)∧H b=some (.lst zs)∧xs.length+zs.length≤sizeLine∧Q .non (upd H l (.lst (xs++zs)))
theorem ze5:MtM X "list.extend" ygj:=by
  intro pins s σ H x vs v us Q I rx rv h
  obtain ⟨l,b,xs,zs,rfl,rfl,hH,hB,hz,q⟩:=h
  cases rx
  obtain ⟨u,rfl,ru⟩:=rv.one
  cases ru
  obtain ⟨z,its,n,r,hl,e⟩:=I.lstM hH
  obtain ⟨z2,its2,n2,r2,hl2,e2⟩:=I.lstM hB
  have hsz:its.toArray.size+its2.toArray.size≤sizeLine:=by rw [List.size_toArray,List.size_toArray];lia
  have hlong:¬ (!its.toArray.isEmpty&&Builtin.List.listTooLong (its.toArray.size+its2.toArray.size))=true:=by
    rw [zeh hsz,Bool.and_false]
    exact Bool.false_ne_true
  refine call_meets F.slot_list_extend ⟨_,e,rfl⟩ F.entry_list_extend (F.args_list_extend_2 _ _)
    (AutoSeq1.list_extend_list_list_0 l its.toArray n b its2.toArray n2 hlong (by rw [List.size_toArray];lia) (by lia)) ⟨e,e2,?_⟩
  refine ⟨.non,_,I.lset (its':=its++its2) hH e (by simp) (r.append r2) ?_,rfl,q⟩
  rw [List.length_append]
  lia
noncomputable def rPop:V→List V→Hp→VK→Prop:=fun x vs H Q=>∃l xs y,x = .ref l∧vs=[]∧H l=some (.lst xs)∧xs[xs.length-1]?=some y∧Q y (upd H l (.lst xs.dropLast))
theorem mt_pop:MtM X "list.pop" rPop:=by
  intro pins s σ H x vs v us Q I rx rv h
  obtain ⟨l,xs,y,rfl,rfl,hH,hy,q⟩:=h
  cases rx
  have hus:=rv.zero
  subst hus
  obtain ⟨z,its,n,r,hl,e⟩:=I.lstM hH
  obtain ⟨u,hu,ru⟩:=r.get hy
  have hy':its.toArray[its.toArray.size-1]?=some u:=by
    show its.toArray[its.length-1]?=some u
    rw [←Array.getElem?_toList,←hl]
    exact hu
  refine call_meets F.slot_list_pop ⟨_,e,rfl⟩ F.entry_list_pop (F.args_list_pop_1 _) (MeetsSeq.list_pop_last l its.toArray n u hy' (by rw [List.size_toArray];lia)) ⟨e,?_⟩
  refine ⟨y,_,I.lset (its':=its.dropLast) hH e ?_ r.dropLast ?_,ru,q⟩
  · show its.toArray.eraseIdxIfInBounds (its.toArray.size-1)=its.dropLast.toArray
    rw [List.size_toArray,List.eraseIdxIfInBounds_toArray,yeu]
  · rw [List.length_dropLast]
    lia
noncomputable def yg1:V→List V→Hp→VK→Prop:=fun x vs H Q=>∃l xs i k y,x = .ref l∧vs=[.int i]∧H l=some (.lst xs)∧-(2^63)≤i∧i<2^63∧seqIndex? i xs.length=some k∧xs[k]?=some y∧Q y (upd H l (.lst (xs.eraseIdx k)))
theorem yfY:MtM X "list.pop" yg1:=by
  intro pins s σ H x vs v us Q I rx rv h
  obtain ⟨l,xs,i,k,y,rfl,rfl,hH,h1,h2,hk,hy,q⟩:=h
  cases rx
  obtain ⟨u,rfl,ru⟩:=rv.one
  obtain ⟨t,rfl⟩:=ru
  obtain ⟨z,its,n,r,hl,e⟩:=I.lstM hH
  obtain ⟨w,hw,rw'⟩:=r.get hy
  refine call_meets F.slot_list_pop ⟨_,e,rfl⟩ F.entry_list_pop (F.args_list_pop_2 _ _)
    (MeetsSeq.list_pop_at l its.toArray n i t k w (fitsIndex_both h1 h2) (by rw [List.size_toArray,←hl];exact hk) (by rw [←Array.getElem?_toList];exact hw) (by rw [List.size_toArray];lia)) ⟨e,?_⟩
  refine ⟨y,_,I.lset (its':=its.eraseIdx k) hH e ?_ (r.eraseIdx k) ?_,rw',q⟩
  · show its.toArray.eraseIdxIfInBounds k=(its.eraseIdx k).toArray
    rw [List.eraseIdxIfInBounds_toArray]
  · have:=ydr xs k
    lia
noncomputable def rCat:R2:=fun x y H Q=>∃l b xs zs,x = .ref l∧y = .ref b∧H l=some (.lst xs)∧H b=some (.lst zs)∧xs.length+zs.length≤sizeLine∧∀p,H p=none→Q (.ref p) (upd H p (.lst (xs++zs)))
theorem ybU:OpR X (binaryOp .Add) rCat:=by
  intro pins s σ H x y v u Q I rx ry h
  obtain ⟨l,b,xs,zs,rfl,rfl,hH,hB,hz,q⟩:=h
  cases rx
  cases ry
  obtain ⟨z,its,n,r,hl,e⟩:=I.lstM hH
  obtain ⟨z2,its2,n2,r2,hl2,e2⟩:=I.lstM hB
  refine PySem.P.add_list e e2 ?_ (by rw [List.size_toArray,List.size_toArray];lia)
  have ea:its.toArray++its2.toArray=(its++its2).toArray:=by simp
  rw [ea]
  exact ⟨.ref _,_,I.lnew (t':=s.toks) (r.append r2) (by rw [List.length_append];lia),rfl,q _ I.fresh⟩
noncomputable def rRep:R2:=fun x y H Q=>∃l k xs,x = .ref l∧y = .int k∧H l=some (.lst xs)∧-(2^63)≤k∧k<2^63∧xs.length*k.toNat≤sizeLine∧
  ∀p,H p=none→Q (.ref p) (upd H p (.lst (List.replicate k.toNat xs).flatten))
theorem zfd {α:Type} (xs:List α) (k:Nat):(List.replicate k xs).flatten.length=k*xs.length:=by
  induction k with
  | zero=>simp
  | succ k ih=>rw [List.replicate_succ,List.flatten_cons,List.length_append,ih,Nat.succ_mul,Nat.add_comm]
theorem zcm:OpR X (binaryOp .Mult) rRep:=by
  intro pins s σ H x y v u Q I rx ry h
  obtain ⟨l,k,xs,rfl,rfl,hH,h1,h2,hz,q⟩:=h
  cases rx
  obtain ⟨t,rfl⟩:=ry
  obtain ⟨z,its,n,r,hl,e⟩:=I.lstM hH
  have hlen:its.toArray.size*k.toNat≤sizeLine:=by rw [List.size_toArray,←hl];exact hz
  have hcap:¬ its.toArray.size*k.toNat>(2^63-1)/8:=by
    have:(sizeLine:Nat)≤(2^63-1)/8:=by decide
    lia
  have hfit:¬ (!Builtin.List.listFitsIndex k)=true:=by
    rw [fitsIndex_both h1 h2]
    exact Bool.false_ne_true
  have hlong:¬ Builtin.List.listTooLong (its.toArray.size*k.toNat)=true:=by
    rw [zeh hlen]
    exact Bool.false_ne_true
  have hnew:List.foldl (fun x1 x2=>x1++x2) #[] (List.replicate (if its.toArray.isEmpty=true then 0 else k.toNat) its.toArray)=(List.replicate k.toNat its).flatten.toArray:=by
    have f0:∀m:Nat,List.foldl (fun x1 x2=>x1++x2) #[] (List.replicate m its.toArray)=(List.replicate m its).flatten.toArray:=fun m=>by
      have:=ycA its m []
      rw [List.nil_append] at this
      exact this
    rw [f0]
    cases its with
    | nil=>simp
    | cons a r'=>rw [if_neg (by simp)]
  refine wpAny_binaryOp_repeat_ref (T:="list") (U:="int") (by decide) ⟨_,e,rfl⟩ (fun s'=>typeIs_int s' k t) noFill_list_mul F.fills_int_mul F.slot_int_rmul repeat_list F.slot_int_index.lookup
    (call_meets F.slot_int_rmul (typeIs_int s k t) F.entry_int_rmul (F.args_int_rmul_2 _ _) (int___rmul___int_list k t l its.toArray n)
      ⟨e,rfl,⟨_,e,rfl⟩,call_meets F.slot_list_mul ⟨_,e,rfl⟩ F.entry_list_mul (F.args_list_mul_2 _ _) (AutoListH.list___mul___list_int_3 l its.toArray n k t hfit hcap hlong) ⟨e,?_⟩⟩)
  rw [hnew]
  exact ⟨.ref _,_,I.lnew (t':=s.toks) (r.rep k.toNat) (by rw [zfd,Nat.mul_comm];exact hz),rfl,q _ I.fresh⟩
end
end L2
namespace Att
open PySem PySem.W PySem.Calls PyProof.Rows
theorem zcj {P:Params} {h:Heap}:∀(ns:List Int) (vs:List Value),WellAll P h vs (ns.map WData.int)→IntsAre vs ns:=by
  intro ns
  induction ns with
  | nil =>
    intro vs w
    rw [List.map_nil] at w
    cases w
    exact .nil
  | cons n ns ih =>
    intro vs w
    rw [List.map_cons] at w
    cases w with
    | cons a b =>
      cases a
      exact .cons _ _ (ih _ b)
theorem ze6 {l:OpenLaw} {n:Nat} (hn:l.most=some n) {P:Params} {h:Heap} {args:List WData} {vals:List Value}
    (hpre:l.row.toRowW.claim.pre args=true) (hwl:WellAll P h vals args) :
    ∃a vs ns,vals=[Value.ref a]∧args=[WData.list (ns.map WData.int)]∧h.get? a=some { cls:=.type "list",data:=.seq vs.toArray }∧IntsAre vs ns∧ns.length≤n:=by
  have hsh:WShape.hasAll [] args [.list .int]=true:=(pre_splitW hpre).1
  have hc:l.pre.holds [] { args:=args }=true:=(pre_splitW hpre).2
  obtain ⟨d,r,rfl,h1,h2⟩:=hasAllW_cons hsh
  obtain rfl:=hasAllW_nil h2
  obtain ⟨xs,rfl,h3⟩:=hasW_list h1
  obtain ⟨ns,rfl⟩:=items_int h3
  have hlen:ns.length≤n:=by
    unfold OpenLaw.pre at hc
    have h4:(WTm.not (.lt (.lit (.int (n:Int))) (.len (.arg 0)))).holds [] { args:=[.list (ns.map .int)] }=true:=by
      have h4:=(holds_andW hc).1
      rw [hn] at h4
      exact h4
    have h5:=condW_of h4 (w_not (w_lt w_lit (w_len_list (w_arg rfl))))
    rw [List.length_map] at h5
    refine Nat.le_of_not_lt fun q=>?_
    have q':(n:Int)<((ns.length:Nat):Int):=by lia
    first
      | (rw [decide_eq_true q'] at h5;exact absurd h5 (by decide))
      | (simp at h5;lia)
  cases hwl with
  | cons w1 w2 =>
    cases w2
    cases w1 with
    | list ho hall=>exact ⟨_,_,ns,rfl,rfl,ho,zcj ns _ hall,hlen⟩
theorem ye8 (l:OpenLaw) (args:List WData):l.row.toRowW.claim.post args (.bool true) args=true :=
  postW_of (r:=l.row.toRowW) (X:=(true==true))
    (show WShape.has [] (.bool true) .bool=true by first|rfl|decide|simp [WShape.has,WShape.arms,WShape.armsAll])
    (show (WTm.eq .res (.lit (.bool true))).value [] { args:=args,res:=some (.bool true),after:=args }=some (.bool (true==true)) from w_eq_bool (w_res rfl) w_lit) rfl
theorem attach_call {l:OpenLaw} {n:Nat} {q:Program} {loose:List Str} {XP:(Str→Option Value)→Heap→Prop} {YP:World→Heap→Prop} {d:DefRec}
    (hn:l.most=some n) (hdf:d.params.defaults=[])
    (call:∀(w:World) (s₀ s₁:Shared) (mg mb:Str→Option Value) (fa:Addr) (o:Obj) (pm cd doc:Value) (a:Addr) (vs:List Value) (ns:List Int),
      Ground q loose [] XP w s₀ mg mb s₁.heap→YP w s₁.heap→
      s₁.heap.get? fa=some o→o.data = .func (docDef d.name d.params d.body d.scope pm cd doc)→s₁.heap.CodeRec cd d.name→mg d.name=some (.ref fa)→
      s₁.heap.get? a=some { cls:=.type "list",data:=.seq vs.toArray }→IntsAre vs ns→ns.length≤n→s₁.gens = #[]→
      codeAny (model l.prog w) callerA (.call (.ref fa) ⟨[.ref a],[]⟩) (fun r s'=>r = .ok (.ret (.bool true))∧OldK s₁.heap s'.heap∧s'.os=s₁.os∧AllBare s'.gens) s₁) :
    WalkO q loose XP YP l.row.toRowW d [] (fun f vs=>PySem.call f vs):=by
  intro w s₀ s₁ mg mb G Y fa o pm cd doc dV kV ho hd hcd hD hmg hg args vals as hpre hlay hrd hwl hlo
  obtain rfl:dV = .none:=Dflts.none hD hdf
  obtain rfl:kV = .none:=Dflts.noKw hD
  obtain ⟨a,vs,ns,rfl,rfl,hobj,hints,hlen⟩:=ze6 hn hpre hwl
  refine enter_call (codeAny_mono (call w s₀ s₁ mg mb fa o pm cd doc a vs ns G Y ho (fd_plain hd) hcd hmg hobj hints hlen hg) fun r s' hq=>?_)
  obtain ⟨rfl,h2,h3,h4⟩:=hq
  exact ⟨.inl ⟨.bool true,.bool true,[],rfl,fun _=>rfl,.bool true,ye8 l _,fun _=>⟨List.Pairwise.nil,fun _ hm=>(nomatch hm)⟩⟩,h2,h3,h4⟩
end Att
namespace L2
open PySem PySem.Spec PyProof.Rows
theorem ydm:∀ {vs:List Value} {ns:List Int},IntsAre vs ns→Vals (ns.map V.int) vs
  | _,_,.nil=>.nil
  | _,_,.cons n t h=>.cons ⟨t,rfl⟩ (ydm h)
noncomputable def Only (H:Hp):Prop:=∀b,H b=none∨∃o xs,H b=some (.frz o (.lst xs))
theorem yfV {P:Program} {w:World} {K:PySem.W.Frag} {mg mb:Str→Option Value} {CX:CXT} {k:Nat} {fa a:Addr} {fd:FuncData} {x:Str} {sp:Sp} {s₁:Shared} {vs:List Value} {ns:List Int}
    (KX:K.In s₁.heap) (hns:s₁.heap.Ns mainGlobals mg) (hb:s₁.heap.Ns builtinsNs mb) (hbb:∀x:Str,x≠"__name__"→mb x=bootBuiltins x) (hlim:s₁.heap.NoLimit) (hg:s₁.gens = #[])
    (ha:s₁.heap.get? a=some { cls:=.type "list",data:=.seq vs.toArray }) (hi:IntsAre vs ns) (hl:ns.length≤sizeLine) (hr:Room k callerA)
    (F:∀base:Heap,K.In base→base.Ns mainGlobals mg→FnOk P w K mg base CX k fa fd [x] sp) (hbind:∀(s:Shared) (u:Value),BindsTo s fd ⟨[u],[]⟩ [(x,u)])
    (hsp:∀H:Hp,Only H→SqL K H a (ns.map V.int)→sp [.ref a] H (fun v _=>v = .bl true) fun _ _ _=>False)
    (hCX:∀H e s',CX [] H s₁ (fun _ _ _=>False) e s'→False) :
    codeAny (model P w) callerA (.call (.ref fa) ⟨[.ref a],[]⟩) (fun r s'=>r = .ok (.ret (.bool true))∧OldK s₁.heap s'.heap∧s'.os=s₁.os∧AllBare s'.gens) s₁:=by
  have rv:=ydm hi
  have lenV:=hi.length
  have core:∀H:Hp,Only H→SqL K H a (ns.map V.int)→HOk P w H s₁.heap→(∀b,H b≠none→b=a)→(H a≠none→K.lookup a=none)→
      codeAny (model P w) callerA (.call (.ref fa) ⟨[.ref a],[]⟩) (fun r s'=>r = .ok (.ret (.bool true))∧OldK s₁.heap s'.heap∧s'.os=s₁.os∧AllBare s'.gens) s₁:=by
    intro H hO hS hok hA hK
    have base_of:∀ {b:Addr} {o:Obj},s₁.heap.get? b=some o→H b=none→(hidT s₁.heap H).get? b=some o:=fun e n=>zf2 e n
    have noA:∀ {b:Addr} {o:Obj} {es:Array DictEntry} {ep:Nat},s₁.heap.get? b=some o→o.data = .dict es ep→H b=none:=fun {b o es ep} e d=>by
      cases q:H b with
      | none=>rfl
      | some u =>
        have e':b=a:=hA b (by rw [q];simp)
        subst e'
        rw [ha] at e;cases e
        have d':Data.seq vs.toArray _=Data.dict es ep:=d
        cases d'
    have nsK:∀ {b:Addr} {m:Str→Option Value},s₁.heap.Ns b m→(hidT s₁.heap H).Ns b m:=fun {b m} ⟨o,es,ep,e,d,r⟩=>⟨o,es,ep,base_of e (noA e d),d,r⟩
    have hKb:K.In (hidT s₁.heap H):=fun b o e=>base_of (KX b o e) (by
      cases q:H b with
      | none=>rfl
      | some u =>
        have e':b=a:=hA b (by rw [q];simp)
        subst e'
        rw [hK (by rw [q];simp)] at e;cases e)
    have hM:Mod K mg (hidT s₁.heap H):=⟨hKb,nsK hns,⟨mb,nsK hb,hbb⟩,let ⟨mc,h1,h2⟩:=hlim;⟨mc,nsK h1,h2⟩⟩
    have e0:Env0 P w K mg (hidT s₁.heap H) callerA [] s₁ H:=⟨rfl,hM,fun b o e=>zgK e,Nat.le_of_eq (yfn _ _),trivial,fun b hb=>absurd (show b∈([]:List Addr) from hb) (by simp),hok,.of_eq hg⟩
    refine codeAny_mono ((F _ hKb (nsK hns)).run callerA [] s₁ H ⟨[.ref a],[]⟩ [.ref a] [.ref a] _ _ hr e0 (hbind s₁ (.ref a)) (.cons rfl .nil) (hsp H hO hS)) fun r s' h=>?_
    cases r with
    | error e=>exact (hCX H e s' h).elim
    | ok fl =>
      cases fl with
      | next=>exact False.elim h
      | brk=>exact False.elim h
      | cont=>exact False.elim h
      | ret u =>
        obtain ⟨v,H',os,bare,un,hok',r',q⟩:=h
        have q':v = .bl true:=q
        subst q'
        obtain rfl:u=Value.bool true:=r'
        refine ⟨rfl,OldK.of_keep fun b o e=>?_,os,bare⟩
        cases q:H b with
        | none=>exact un.keep b o e q (by intro z;exact absurd (show b∈([]:List Addr) from z) (by simp)) (by simp)
        | some u =>
          rcases hO b with z | ⟨ob,xs,z⟩
          · rw [q] at z;cases z
          · have z2:=un.frzs b ob _ z
            obtain ⟨e1,_⟩:=hok b _ z
            obtain ⟨e2,_⟩:=hok' b _ z2
            rw [e] at e1;cases e1
            exact e2
  cases hk:K.lookup a with
  | some o =>
    have e:=KX a o hk
    rw [ha] at e
    cases e
    refine core (fun _=>none) (fun _=>.inl rfl) (.inr ⟨_,vs.toArray,_,hk,rfl,rfl,rfl,by rw [List.size_toArray,lenV];exact hl,by simpa using rv⟩) (fun b u z=>by have z':(none:Option HO)=some u:=z;cases z') (fun b z=>absurd rfl z) fun z=>absurd rfl z
  | none =>
    refine core (fun b=>if b=a then some (.frz { cls:=.type "list",data:=.seq vs.toArray } (.lst (ns.map V.int))) else none) (fun b=>?_) (.inl (.inr ⟨{ cls:=.type "list",data:=.seq vs.toArray },if_pos rfl⟩)) (fun b u z=>?_) (fun b z=>?_) fun _=>hk
    · by_cases hb:b=a
      · exact .inr ⟨_,_,if_pos hb⟩
      · exact .inl (if_neg hb)
    · by_cases hb:b=a
      · have z':=(if_pos hb).symm.trans z
        cases z'
        subst hb
        exact ⟨ha,by rw [List.length_map];exact hl,vs,_,rv,ha⟩
      · have z':=(if_neg hb).symm.trans z
        cases z'
    · by_cases hb:b=a
      · exact hb
      · exact absurd (if_neg hb) z
end L2
namespace L2
open PySem PySem.Spec PyProof.Rows
noncomputable abbrev KOf {K:PySem.W.Frag} {h:Heap} (_:K.In h):PySem.W.Frag:=K
theorem walk_of {l:PySem.W.OpenLaw} {n k:Nat} {q:Program} {loose:List Str} {XP:(Str→Option Value)→Heap→Prop} {YP:World→Heap→Prop} {d:DefRec} {K:Params→PySem.W.Frag} {CX:World→CXT} {sp:World→Sp} {x:Str}
    (hn:l.most=some n) (hn2:n≤sizeLine) (hdf:d.params.defaults=[]) (hr:Room k callerA)
    (hY:∀(w:World) (h:Heap),YP w h→(K w.params).In h)
    (F:∀(w:World) (mg:Str→Option Value) (fa:Addr) (h:Heap),(K w.params).In h→h.Ns mainGlobals mg→mg d.name=some (.ref fa)→
      ∃fd:FuncData,(∀(s:Shared) (u:Value),BindsTo s fd ⟨[u],[]⟩ [(x,u)])∧
        ∀base:Heap,(K w.params).In base→base.Ns mainGlobals mg→FnOk l.prog w (K w.params) mg base (CX w) k fa fd [x] (sp w))
    (hsp:∀(w:World) (H:Hp) (a:Addr) (ns:List Int),ns.length≤n→Only H→SqL (K w.params) H a (ns.map V.int)→sp w [.ref a] H (fun v _=>v = .bl true) fun _ _ _=>False)
    (hCX:∀(w:World) (H:Hp) (s:Shared) (e:Value) (s':Shared),CX w [] H s (fun _ _ _=>False) e s'→False) :
    PySem.W.WalkO q loose XP YP l.row.toRowW d [] (fun f vs=>PySem.call f vs):=by
  refine Att.attach_call hn hdf fun w s₀ s₁ mg mb fa o pm cd doc a vs ns G Y ho hd hcd hmg hobj hints hlen hg=>?_
  have KX:=hY w _ Y
  obtain ⟨fd,hb,hF⟩:=F w mg fa _ KX G.T.g hmg
  exact yfV KX G.T.g G.T.b G.T.builtins G.T.nolimit hg hobj hints (Nat.le_trans hlen hn2) hr hF hb (fun H hO hS=>hsp w H a ns hlen hO hS) fun H e s'=>hCX w H s₁ e s'
end L2
namespace L2
open PySem PySem.Spec PyProof.Rows
noncomputable def ybL (s:Stmt):Arguments:=match s with
  | .FunctionDef _ a _ _ _ _ _ _ _ _=>a
  | _=>{ posonlyargs:=[],args:=[],vararg:=none,kwonlyargs:=[],kw_defaults:=[],kwarg:=none,defaults:=[] }
noncomputable def ybr (s:Stmt):List Stmt:=match s with
  | .FunctionDef _ _ b _ _ _ _ _ _ _=>b
  | _=>[]
noncomputable def yac (s:Stmt):Scope:=match s with
  | .FunctionDef _ _ _ _ _ _ sc _ _ _=>sc
  | _=>{ kind:=.function,names:=[],isGenerator:=false,isCoroutine:=false }
noncomputable abbrev CX0:CXT:=fun _ _ _ _ _ _=>False
noncomputable abbrev E0:XK:=fun _ _ _=>False
theorem zhk {X:Cx}:zfo CX0 X E0:=fun _ _ _ _ _ _ _ h=>h.elim
structure Fun (K:PySem.W.Frag) (x qual:Str) (st:Stmt) (f:Addr) (fd:FuncData):Prop where
  ex:∃(oc:Value) (od:Option Addr) (kV doc pm:Value) (an:Option Addr) (cdv ct:Value) (osl:Array (Option Value)),
    fd=PySem.W.fnOf x qual (ybL st) (ybr st) (yac st) .none kV doc pm an cdv ct∧K.lookup f=some ⟨oc,od,.func fd,osl⟩∧PySem.W.codeIn K cdv qual=true
  kp:PySem.W.keepIn K (.ref f)=true
section
variable {P:Program} {w:World} {K:PySem.W.Frag} {mg:Str→Option Value} {base:Heap}
theorem Fun.ok {x qual:Str} {st:Stmt} {f:Addr} {fd:FuncData} {N ps:List Str} {k:Nat} {sp:Sp} (F:Fun K x qual st f fd) (S:yai N ps (yac st)) (len:∀vs H Q E,sp vs H Q E→vs.length=ps.length)
    (hbody:∀(cdv:Value) (A:Around) (outer:List Env) (s:Shared) (H:Hp) (vs:List V) (Q:VK) (E:XK),Room k (A.deeper (envOfC qual (yac st) s.heap.objs.size f cdv))→sp vs H Q E→
      ∃t,PSs (cxOf CX0 P w K mg base N qual (yac st) f cdv A outer s H E).nox (ybr st) t∧t { nx:=fun _ H'=>Q .non H',rt:=Q } (zdt N vs) H):FnOk P w K mg base CX0 (k+1) f fd ps sp:=by
  obtain ⟨oc,od,kV,doc,pm,an,cdv,ct,osl,rfl,lk,hcd⟩:=F.ex
  refine zhx lk hcd S len fun A outer s H vs Q E hr hsp=>?_
  obtain ⟨t,h,q⟩:=hbody cdv A outer s H vs Q E hr hsp
  exact ⟨t,h.nox,q⟩
theorem Fun.binds {x qual:Str} {st:Stmt} {f:Addr} {fd:FuncData} {ps:List Str} (F:Fun K x qual st f fd)
    (h:∀(kV doc pm:Value) (an:Option Addr) (cdv ct:Value) (us:List Value),us.length=ps.length→bindArgs (PySem.W.fnOf x qual (ybL st) (ybr st) (yac st) .none kV doc pm an cdv ct) ⟨us,[]⟩=pure (ps.zip us)):yes K fd ps []:=by
  obtain ⟨oc,od,kV,doc,pm,an,cdv,ct,osl,rfl,lk,hcd⟩:=F.ex
  exact .all (h kV doc pm an cdv ct)
theorem ygb {x qual:Str} {st:Stmt} {f:Addr} {oc:Value} {od an:Option Addr} {osl:Array (Option Value)} {kV doc pm cdv ct:Value} (l:K.lookup f=some ⟨oc,od,.func (PySem.W.fnOf x qual (ybL st) (ybr st) (yac st) .none kV doc pm an cdv ct),osl⟩)
    (c:PySem.W.codeIn K cdv qual=true) (k:PySem.W.keepIn K (.ref f)=true):Fun K x qual st f (PySem.W.fnOf x qual (ybL st) (ybr st) (yac st) .none kV doc pm an cdv ct):=⟨⟨oc,od,kV,doc,pm,an,cdv,ct,osl,rfl,l,c⟩,k⟩
end
theorem yhu {A:Around} {k:Nat} (hr:Room k A):A.units+1<cLine:=Nat.lt_of_le_of_lt (Nat.add_le_add_left (by decide:1≤64) _) hr.units
theorem zaf {n:Nat} (h:n≤1000):n<sizeLine:=Nat.lt_of_le_of_lt h (by decide)
section
variable {X:Cx}
theorem pv (i:Nat) {x:Str} {pos:Pos} (hN:X.N[i]?=some x:=by rfl) (hv:Vis X.env.scope x:=by first|exact Or.inl rfl|exact Or.inr (Or.inl rfl)|exact Or.inr (Or.inr rfl)) (hd:(x==("__debug__":Str))=false:=by decide)
    (hcd:(x==("__classdict__":Str))=false:=by decide):PE X (.Name x pos) (tVar i):=zgT hN hv hd hcd
end
theorem ite2 {c A B:Prop} [Decidable c] (h1:c→A) (h2:¬ c→B):if c then A else B:=by
  by_cases h:c
  · rw [if_pos h]
    exact h1 h
  · rw [if_neg h]
    exact h2 h
noncomputable def Same (H H':Hp):Prop:=∀b o,H b=some o→H' b=some o
theorem Same.refl (H:Hp):Same H H:=fun _ _ h=>h
theorem Same.trans {H H1 H2:Hp} (a:Same H H1) (b:Same H1 H2):Same H H2:=fun c o h=>b c o (a c o h)
theorem Same.free {H H':Hp} (e:Same H H') {l:Addr} (h:H' l=Option.none):H l=Option.none:=by
  cases q:H l with
  | none=>rfl
  | some o =>
    rw [e l o q] at h
    cases h
theorem Same.seq {K:PySem.W.Frag} {H H':Hp} {a:Addr} {xs:List V} (e:Same H H') (h:SqL K H a xs):SqL K H' a xs:=by
  rcases h with (h | ⟨o,h⟩)|h
  · exact .inl (.inl (e _ _ h))
  · exact .inl (.inr ⟨o,e _ _ h⟩)
  · exact .inr h
end L2
end
section
-- text: PpDict
set_option Elab.async false
set_option linter.all false
set_option maxRecDepth 100000
namespace L2
open PySem PySem.Spec PyProof.Rows
section
variable {κ:Type} [DecidableEq κ]
noncomputable def valV (kvs:List (κ×V)) (k:κ):Option V:=(kvs.find? fun kv=>decide (kv.1=k)).map (·.2)
noncomputable def putK (kvs:List (κ×V)) (k:κ) (v:V):List (κ×V) :=
  if (kvs.any fun kv=>decide (kv.1=k))=true then kvs.map (fun kv=>if kv.1=k then (kv.1,v) else kv) else kvs++[(k,v)]
theorem zec {p:κ×V} {r:List (κ×V)} {k:κ} (e:p.1=k):valV (p::r) k=some p.2:=by simp [valV,List.find?_cons,e]
theorem zeb {p:κ×V} {r:List (κ×V)} {k:κ} (e:¬ p.1=k):valV (p::r) k=valV r k:=by simp [valV,List.find?_cons,e]
theorem ydC (kvs:List (κ×V)) (k:κ) (v:V):(putK kvs k v).length≤kvs.length+1:=by
  unfold putK
  split
  · rw [List.length_map];lia
  · rw [List.length_append,List.length_cons,List.length_nil];lia
theorem KV.val {kvs:List (κ×V)} {vs:List (κ×Value)} (r:KV kvs vs) (k:κ):RelO (valV kvs k) (valueAt vs k):=by
  unfold KV at r
  induction r with
  | nil=>exact True.intro
  | @cons p q ps qs h t ih =>
    obtain ⟨h1,h2⟩:=h
    by_cases e:p.1=k
    · have e':q.1=k:=h1.symm.trans e
      have b:valueAt (q::qs) k=some q.2:=by simp [valueAt,List.find?_cons,e']
      rw [zec e,b];exact h2
    · have e':¬ q.1=k:=fun z=>e (h1.trans z)
      have b:valueAt (q::qs) k=valueAt qs k:=by simp [valueAt,List.find?_cons,e']
      rw [zeb e,b];exact ih
theorem KV.any {kvs:List (κ×V)} {vs:List (κ×Value)} (r:KV kvs vs) (k:κ):(kvs.any fun kv=>decide (kv.1=k))=vs.any fun kv=>decide (kv.1=k):=by
  unfold KV at r
  induction r with
  | nil=>rfl
  | cons h t ih=>rw [List.any_cons,List.any_cons,ih,h.1]
theorem KV.repl {kvs:List (κ×V)} {vs:List (κ×Value)} (r:KV kvs vs) (k:κ) {y:V} {u:Value} (ry:RelV y u) :
    KV (kvs.map fun kv=>if kv.1=k then (kv.1,y) else kv) (vs.map fun kv=>if kv.1=k then (kv.1,u) else kv):=by
  unfold KV at r ⊢
  induction r with
  | nil=>exact .nil
  | @cons p q ps qs h t ih =>
    rw [List.map_cons,List.map_cons]
    refine .cons ?_ ih
    obtain ⟨h1,h2⟩:=h
    by_cases e:p.1=k
    · rw [if_pos e,if_pos (h1.symm.trans e)];exact ⟨h1,ry⟩
    · rw [if_neg e,if_neg (fun z=>e (h1.trans z))];exact ⟨h1,h2⟩
theorem KV.put {kvs:List (κ×V)} {vs:List (κ×Value)} (r:KV kvs vs) (k:κ) {y:V} {u:Value} (ry:RelV y u):KV (putK kvs k y) (stored vs k u):=by
  unfold putK stored
  rw [r.any k]
  by_cases e:(vs.any fun kv=>decide (kv.1=k))=true
  · rw [if_pos e,if_pos e];exact r.repl k ry
  · rw [if_neg e,if_neg e];exact Paired.snoc r ⟨rfl,ry⟩
theorem KV.keys {kvs:List (κ×V)} {vs:List (κ×Value)} (r:KV kvs vs):kvs.map (·.1)=vs.map (·.1):=by
  unfold KV at r
  induction r with
  | nil=>rfl
  | cons h t ih=>rw [List.map_cons,List.map_cons,ih,h.1]
end
theorem zfP {P:Program} {w:World} {k:Key} {u:Value} (r:RelV (kV k) u):(zaz P w).is k u=true:=by
  cases k with
  | inl i=>obtain ⟨t,e⟩:=(show ∃t,u=Value.int i t from r);subst e;exact zd0 P w i t
  | inr x=>obtain ⟨t,e⟩:=(show ∃t,u=Value.str x t from r);subst e;exact ydN P w x t
theorem zdz {P:Program} {w:World}:∀ {ks:List Key} {us:List Value},Vals (ks.map kV) us→ItemsAre (zaz P w) ks us
  | [],_,r=>by rw [List.map_nil] at r;cases r;exact .nil
  | k::ks,_,r=>by
    rw [List.map_cons] at r
    cases r with
    | cons h t=>exact .cons (zfP h) (zdz t)
noncomputable abbrev KT (H:Hp):List (List Key×V)→List (List Key×Addr×Value)→Prop:=Paired fun p q=>p.1=q.1∧H q.2.1=some (.tup (p.1.map kV))∧RelV p.2 q.2.2
theorem KT.val {H:Hp} {kvs:List (List Key×V)} {xs:List (List Key×Addr×Value)} (r:KT H kvs xs) (k:List Key):RelO (valV kvs k) ((atKey xs k).map (·.2)):=by
  induction r with
  | nil=>exact True.intro
  | @cons p q ps qs h t ih =>
    obtain ⟨h1,_,h2⟩:=h
    by_cases e:p.1=k
    · have e':q.1=k:=h1.symm.trans e
      have b:atKey (q::qs) k=some q.2:=by simp [atKey,List.find?_cons,e']
      rw [zec e,b];exact h2
    · have e':¬ q.1=k:=fun z=>e (h1.trans z)
      have b:atKey (q::qs) k=atKey qs k:=by simp [atKey,List.find?_cons,e']
      rw [zeb e,b];exact ih
section
variable {P:Program} {w:World} {H:Hp} {h:Heap} {a:Addr}
theorem zhf {u:HO} (ok:HOk P w H h) (e:Rd H a u):zaX P w H h a u:=e.ok ok
theorem ygI {kvs:List (Key×V)} (ok:HOk P w H h) (e:Rd H a (.dK kvs)):kvs.length≤sizeLine∧(a==sysModules)=false∧∃vs,KV kvs vs∧h.DictOf (zaz P w) a vs :=
  show zaX P w H h a (.dK kvs) from zhf ok e
theorem yhr {kvs:List (Key×V)} (ok:HOk P w H h) (e:H a=some (.dK kvs)):kvs.length≤sizeLine∧(a==sysModules)=false∧∃vs,KV kvs vs∧h.DictOf (zaz P w) a vs:=ygI ok (.inl e)
theorem zgc {ks:List Key} (ok:HOk P w H h) (e:H a=some (.tup (ks.map kV))):(tupleKind (zaz P w)).is h ks a:=by
  obtain ⟨_,its,r,o,h1,h2,n,h3⟩:=(show zaX P w H h a (.tup (ks.map kV)) from ok a _ e)
  exact ⟨o,its.toArray,n,h1,h2,h3,by simpa using zdz r⟩
theorem yg5 {kvs:List (List Key×V)} (ok:HOk P w H h) (e:Rd H a (.dT kvs)):kvs.length≤sizeLine∧(a==sysModules)=false∧
    ∃xs,KT H kvs xs∧h.DictOfH (tupleKind (zaz P w)) a xs:=by
  obtain ⟨z,y,xs,r,o,es,ep,h1,h2,h3,h4,h5⟩:=(show zaX P w H h a (.dT kvs) from zhf ok e)
  refine ⟨z,y,xs,r,o,es,ep,h1,h2,h3,h4,fun x hx=>?_,h5⟩
  have all:∀ {l:List (List Key×V)} {m:List (List Key×Addr×Value)},KT H l m→∀x∈m,(tupleKind (zaz P w)).is h x.1 x.2.1:=by
    intro l m q
    induction q with
    | nil=>intro x hx;exact nomatch hx
    | @cons p q ps qs hq t ih =>
      intro x hx
      rcases List.mem_cons.mp hx with e|hx
      · subst e
        exact zgc ok (by rw [←hq.1];exact hq.2.1)
      · exact ih x hx
  exact all r x hx
end
noncomputable def DGet (H:Hp) (a:Addr) (y:V) (r:Option V):Prop :=
  (∃kvs k,Rd H a (.dK kvs)∧y=kV k∧r=valV kvs k)∨∃kvs k b,Rd H a (.dT kvs)∧y = .ref b∧H b=some (.tup (k.map kV))∧r=valV kvs k
theorem DGet.k {H:Hp} {a:Addr} {kvs:List (Key×V)} {k:Key} (e:H a=some (.dK kvs)):DGet H a (kV k) (valV kvs k):=.inl ⟨kvs,k,.inl e,rfl,rfl⟩
section
variable {X:Cx} {pins:List (Addr×Obj)} {σ:St} {H:Hp} {s:Shared} {a:Addr} {y v:V} {u r:Value} {o:Option V} {A:Around} {E:Value→Shared→Prop}
theorem Inv.big (I:Inv X pins σ H s):sysModules<s.heap.objs.size:=by
  have h:mainGlobals<s.heap.objs.size:=(I.mod.glob.keeps I.bk).lt
  exact Nat.lt_trans (by decide) h
theorem zeS {Q:Value→Shared→Prop} (hu:A.units+1<cLine) (I:Inv X pins σ H s) (g:DGet H a y (some v)) (ry:RelV y u) (h:∀w' s',Inv X pins σ H s'→RelV v w'→Q w' s') :
    wpAny (model X.prog X.w) A (getItem (.ref a) u) Q E s:=by
  rcases g with ⟨kvs,k,e,ey,l⟩ | ⟨kvs,k,b,e,ey,eb,l⟩
  · subst ey
    obtain ⟨z,hd,vs,rel,dd⟩:=ygI I.hok e
    obtain ⟨w',hw,rw'⟩:=RelO.some_of (v:=v) (o:=valueAt vs k) (by rw [l];exact rel.val k)
    exact wpAny_getItem_of (zfP ry) dd.mapOf hw (h w' _ (I.tok _) rw')
  · subst ey
    cases (show u=Value.ref b from ry)
    obtain ⟨z,hd,xs,rel,dd⟩:=yg5 I.hok e
    obtain ⟨w',hw,rw'⟩:=RelO.some_of (v:=v) (o:=(atKey xs k).map (·.2)) (by rw [l];exact rel.val k)
    obtain ⟨p,hp,hp2⟩:=Option.map_eq_some_iff.mp hw
    refine wpAny_getItem_heap (tupleKind_room_in1 hu) (zgc I.hok eb) dd hp ?_
    rw [hp2]
    exact h w' _ (I.tok _) rw'
theorem zgJ {h':Heap} {t':Nat} {ob:HO} (I:Inv X pins σ H s) (mu:Mut (H a)) (hs:Heap.SameBut a s.heap h') (he:∃q,h'.get? a=some q) (new:zaX X.prog X.w (upd H a ob) h' a ob) :
    Inv X pins σ (upd H a ob) { s with heap:=h',toks:=t' } :=
  I.write (x:=a) (e:=a) mu (.inl rfl) (fun b q hb z=>(hs.2 b hb).trans z) he new
theorem zg2 {P:Program} {w:World} {H':Hp} {h':Heap} {kvs:List (Key×V)} {vs:List (Key×Value)} (z:kvs.length≤sizeLine) (hd:(a==sysModules)=false) (rel:KV kvs vs) (dd:h'.DictOf (zaz P w) a vs) :
    zaX P w H' h' a (.dK kvs):=⟨z,hd,vs,rel,dd⟩
end
noncomputable def NoSl (i:Expr):Prop:=∀ov iv,subscripted i false ov iv=operate [ov,iv] (getItem ov iv)
theorem zgk {prog:Program} {w:World} {A:Around} {E:Value→Shared→Prop} {s:Shared} {env:Env} {value slice:Expr} {pos:Pos} {T id:String} {Q:Value→Shared→Prop}
    (hl:typeLookup (.type T) "__getitem__"=pure (some (.builtin id))) (hs:NoSl slice)
    (h:wpAny (model prog w) A (eval value env) (fun o s₁=>wpAny (model prog w) A (eval slice env) (fun i s₂=>s₂.TypeIs o T∧wpAny (model prog w) A (getItem o i) Q E s₂) E s₁) E s) :
    wpAny (model prog w) A (eval (.Subscript value slice pos) env) Q E s:=by
  refine Subscript_ (wpAny_mono h (fun o s₁ h₁=>wpAny_mono h₁ (fun i s₂ h₂=>?_) fun _ _ x=>x) fun _ _ x=>x)
  obtain ⟨hT,h₂⟩:=h₂
  unfold subscriptTail
  refine wpAny_bind ?_
  rw [getitemInPython_of_ne hT.not_modules]
  refine wpAny_bind (wpAny_specialOf hT hl ?_)
  have fin:wpAny (model prog w) A (subscripted slice false o i) (fun r s₃=>wpAny (model prog w) A (letTemporaryGo value o r >>= fun _=>pure r) Q E s₃) E s₂:=by
    rw [hs o i]
    exact wpAny_operating (wpAny_mono h₂ (fun r s₃ h₃=>wpAny_bind (wpAny_letTemporaryGo (wpAny_pure h₃))) fun _ _ x=>x)
  first
    | exact wpAny_pure (wpAny_bind fin)
    | exact wpAny_bind (wpAny_pure (wpAny_bind fin))
    | exact wpAny_bind fin
theorem ydD {X:Cx} {pins:List (Addr×Obj)} {σ:St} {H:Hp} {s:Shared} {a:Addr} {y:V} {o:Option V} (I:Inv X pins σ H s) (g:DGet H a y o):s.TypeIs (.ref a) "dict":=by
  rcases g with ⟨kvs,k,e,_,_⟩ | ⟨kvs,k,b,e,_,_,_⟩
  · obtain ⟨_,_,vs,_,dd⟩:=ygI I.hok e
    exact dd.typeIs
  · obtain ⟨_,_,xs,_,dd⟩:=yg5 I.hok e
    exact dd.typeIs
noncomputable def zhm (td ty:TE):TE:=fun σ H Q=>td σ H fun x H1=>ty σ H1 fun y H2=>∃a v,x = .ref a∧DGet H2 a y (some v)∧Q v H2
section
variable {X:Cx} {o i e value:Expr} {pos pos' tpos:Pos} {td ty tv:TE}
theorem zgL (hu:X.A.units+1<cLine) (ho:PE X o td) (hi:PE X i ty) (hs:NoSl i):PE X (.Subscript o i pos) (zhm td ty):=by
  intro pins s σ H Q I h
  refine zgk PySem.F.slot_dict_getitem.lookup hs (thn (ho pins s σ H _ I h) fun u s1 ⟨x,H1,I1,rx,q1⟩=>thn (hi pins s1 σ H1 _ I1 q1) fun iv s2 ⟨y,H2,I2,ry,a,v,ex,g,q2⟩=>?_)
  subst ex
  obtain rfl:u=Value.ref a:=rx
  exact ⟨ydD I2 g,zeS hu I2 g ry fun w' s3 I3 rw'=>⟨v,H2,I3,rw',q2⟩⟩
end
theorem yf2 {P:Program} {w:World} {H:Hp} (h:Heap) (hb:sysModules<h.objs.size):zaX P w H (h.push { cls:=.type "dict",data:=.dict #[] }) h.objs.size (.dK []) :=
  ⟨Nat.zero_le _,beq_eq_false_iff_ne.mpr (Ne.symm (Nat.ne_of_lt hb)),[],.nil,Heap.DictOf.new h⟩
noncomputable def yfr:List (TE×TE)→St→Hp→(List (V×V)→Hp→Prop)→Prop
  | [],_,H,Q=>Q [] H
  | (tk,tv)::r,σ,H,Q=>tk σ H fun x H1=>tv σ H1 fun y H2=>yfr r σ H2 fun ps H3=>Q ((x,y)::ps) H3
noncomputable abbrev VV:List (V×V)→List (Value×Value)→Prop:=Paired fun p q=>RelV p.1 q.1∧RelV p.2 q.2
noncomputable def PPs (X:Cx) (pos:Pos) (keys:List (Option Expr)) (values:List Expr) (trs:List (TE×TE)):Prop :=
  ∀(pins:List (Addr×Obj)) (s:Shared) (σ:St) (H:Hp) (Q:List (V×V)→Hp→Prop),Inv X pins σ H s→yfr trs σ H Q→
    wpAny (model X.prog X.w) X.A (evalPairs (pairTrees keys values X.env pos)) (fun vs s'=>∃ps H',Inv X pins σ H' s'∧VV ps vs∧Q ps H') X.xe s
theorem ygJ {X:Cx} {pos:Pos}:PPs X pos [] [] []:=fun pins s σ H Q I h=>pairTrees_nil_walk ⟨[],H,I,.nil,h⟩
theorem ybv {X:Cx} {pos:Pos} {k v:Expr} {ks:List (Option Expr)} {vs:List Expr} {tk tv:TE} {trs:List (TE×TE)} (hk:PE X k tk) (hv:PE X v tv) (hr:PPs X pos ks vs trs) :
    PPs X pos (some k::ks) (v::vs) ((tk,tv)::trs):=fun pins s σ H Q I h =>
  pairTrees_cons_walk (thn (hk pins s σ H _ I h) fun u s1 ⟨x,H1,I1,rx,q1⟩=>thn (hv pins s1 σ H1 _ I1 q1) fun w2 s2 ⟨y,H2,I2,ry,q2⟩ =>
    thn (hr pins s2 σ H2 _ I2 q2) fun ws s3 ⟨ps,H3,I3,rel,q3⟩=>⟨(x,y)::ps,H3,I3,.cons ⟨rx,ry⟩ rel,q3⟩)
noncomputable def zcG (kvs more:List (Key×V)):List (Key×V):=more.foldl (fun acc kv=>putK acc kv.1 kv.2) kvs
theorem KV.merge:∀ {more:List (Key×V)} {rs:List (Key×Value)} {kvs:List (Key×V)} {vs:List (Key×Value)},KV more rs→KV kvs vs→KV (zcG kvs more) (merged vs rs):=by
  intro more rs kvs vs r
  unfold KV at r
  induction r generalizing kvs vs with
  | nil=>intro q;exact q
  | @cons p q ps qs h t ih =>
    intro r0
    have e:KV (putK kvs p.1 p.2) (stored vs q.1 q.2):=by
      have:=r0.put p.1 h.2
      rw [←h.1];exact this
    exact ih e
theorem zbS:∀(more kvs:List (Key×V)),(zcG kvs more).length≤kvs.length+more.length
  | [],kvs=>by show kvs.length≤kvs.length+0;lia
  | p::r,kvs=>by
    have h1:=zbS r (putK kvs p.1 p.2)
    have h2:=ydC kvs p.1 p.2
    show (zcG (putK kvs p.1 p.2) r).length≤_
    rw [List.length_cons];lia
theorem ycF {P:Program} {w:World}:∀ {kvs:List (Key×V)} {ws:List (Value×Value)},VV (kvs.map fun kv=>(kV kv.1,kv.2)) ws→∃rs,Carries (zaz P w) ws rs∧KV kvs rs
  | [],_,r=>by rw [List.map_nil] at r;cases r;exact ⟨[],True.intro,.nil⟩
  | p::kvs,_,r=>by
    rw [List.map_cons] at r
    cases r with
    | @cons a b as bs h t =>
      obtain ⟨rs,c,q⟩:=ycF (P:=P) (w:=w) t
      obtain ⟨b1,b2⟩:=b
      exact ⟨(p.1,b2)::rs,⟨zfP h.1,rfl,c⟩,.cons ⟨rfl,h.2⟩ q⟩
noncomputable def zhh (trs:List (TE×TE)):TE:=fun σ H Q=>∀p,H p=none→yfr trs σ (upd H p (.dK [])) fun ps H2=>H2 p=some (.dK [])∧∃kvs:List (Key×V),ps=kvs.map (fun kv=>(kV kv.1,kv.2))∧kvs.length≤15∧Q (.ref p) (upd H2 p (.dK (zcG [] kvs)))
theorem zgD {X:Cx} {pos:Pos} {keys:List (Option Expr)} {values:List Expr} {trs:List (TE×TE)} (h:PPs X pos keys values trs) (hall:keys.all (·.isSome)=true) (hl:keys.length=values.length) (h0:keys≠[])
    (h15:keys.length≤15):PE X (.Dict keys values pos) (zhh trs):=by
  intro pins s σ H Q I q
  have hn:=I.hok.fresh (Nat.le_refl s.heap.objs.size)
  have I1:=I.laid (a:=s.heap.objs.size) (o:=.dK []) (h':=s.heap.push { cls:=.type "dict",data:=.dict #[] }) (t':=s.toks) (fun _ _ q=>Heap.get?_push_of_some _ q) (Nat.le_refl _) (yf2 s.heap I.big)
  refine wpAny_Dict_walk (knd:=zaz X.prog X.w) hall hl h0 h15 (thn (h pins _ σ _ _ I1 (q _ hn)) fun ws s2 ⟨ps,H2,I2,rel,e,kvs,ep,lk,q2⟩=>?_)
  subst ep
  obtain ⟨rs,c,rk⟩:=ycF (P:=X.prog) (w:=X.w) rel
  obtain ⟨z,hd,vs0,r0,dd⟩:=yhr I2.hok e
  cases r0
  refine ⟨rs,c,dd,fun h' dd' hs=>⟨.ref s.heap.objs.size,_,?_,rfl,q2⟩⟩
  have hz:(zcG [] kvs).length≤sizeLine:=by
    have h1:=zbS kvs []
    rw [List.length_nil] at h1
    rw [sizeLine_eq];lia
  have he:∃q,h'.get? s.heap.objs.size=some q:=let ⟨q,_,_,hq,_⟩:=dd';⟨q,hq⟩
  exact zgJ I2 (by rw [e];exact True.intro) hs he (zg2 hz hd (rk.merge .nil) dd')
structure M1 (X:Cx) (o:Expr) (m:Str) (apos:Pos) (e:Expr) (cpos:Pos):Prop where
  base:attributeBase o m X.env (eval o X.env)=eval o X.env
  few:((backTo cpos (starEach [e] X.env)).all (fun x=>!x.1)&&(backToKw cpos (keywordEach [] X.env)).all (fun x=>x.1.isSome)
    && decide (([e]:List Expr).length+([]:List Keyword).length+(if ([]:List Keyword).isEmpty then 0 else 1)<30))=true
  line:(apos.endLine==cpos.line)=true
  trees:backTo cpos (starEach [e] X.env)=[(false,eval e X.env)]
structure M2 (X:Cx) (o:Expr) (m:Str) (apos:Pos) (e f:Expr) (cpos:Pos):Prop where
  base:attributeBase o m X.env (eval o X.env)=eval o X.env
  few:((backTo cpos (starEach [e,f] X.env)).all (fun x=>!x.1)&&(backToKw cpos (keywordEach [] X.env)).all (fun x=>x.1.isSome)
    && decide (([e,f]:List Expr).length+([]:List Keyword).length+(if ([]:List Keyword).isEmpty then 0 else 1)<30))=true
  line:(apos.endLine==cpos.line)=true
  trees:backTo cpos (starEach [e,f] X.env)=[(false,eval e X.env),(false,eval f X.env)]
end L2
namespace L2
open PySem PySem.Spec PyProof.Rows
end L2
namespace L2
open PySem PySem.Spec PyProof.Rows
end L2
end
section
-- text: ExtA
set_option Elab.async false
set_option linter.all false
set_option maxRecDepth 100000
set_option maxHeartbeats 4000000
namespace L2
open PySem PySem.Spec PyProof.Rows
section
variable {prog:Program} {w:World} {A:Around} {R:Result→Shared→Prop} {s:Shared}
theorem ydV {elt target iter:Expr} {ifs:List Expr} {scope:Scope} {pos:Pos} {it acc:Value} {env:Env} (I:Nat→Shared→Prop)
    (turn:∀n s,I n s→wpAny (model prog w) A (pyNext it) (fun r s₁=>match r with
      | none=>R (.ok .next) s₁
      | some v=>wpAny (model prog w) A (letOwnedTupleGo target it v) (fun _ s₁'=>wpAny (model prog w) A (assign target env v) (fun _ s₂ =>
          wpAny (model prog w) A (forIn ifs true fun c r=>if r=true then do let ok ←isTrue c env (eval c env);pure (ForInStep.yield ok) else pure (ForInStep.yield r)) (fun ok s₃ =>
            if ok=true then wpAny (model prog w) A (eval elt env) (fun x s₄ =>
              wpAny (model prog w) A (call (.builtin "list.append") [acc,x]) (fun _ s₅=>∃m,m<n∧I m s₅) (fun _ _=>False) s₄) (fun _ _=>False) s₃
            else ∃m,m<n∧I m s₃) (fun _ _=>False) s₂) (fun _ _=>False) s₁') (fun _ _=>False) s₁) (fun _ _=>False) s)
    (n:Nat) (h:I n s):codeAny (model prog w) A (.compLoop (.ListComp elt [⟨target,iter,ifs,0⟩] scope pos) 0 it acc env) R s:=by
  refine codeAny_loop rfl I (fun n s hI=>?_) n h
  show wpAny _ A ((compTurn (.ListComp elt [⟨target,iter,ifs,0⟩] scope pos) 0 it acc env).onRaise (fun x=>do noteFrame x env;theTreesLotGoes x)) _ _ s
  refine wpAny_noted (wpAny_noRaise ?_)
  rw [compTurn_list]
  refine wpAny_bind (wpAny_standAt (wpAny_bind (wpAny_mono (turn n s hI) (fun r s₁ h₁=>?_) fun _ _ h'=>h')))
  cases r with
  | none=>exact wpAny_pure h₁
  | some v =>
    refine wpAny_bind (wpAny_mono h₁ (fun _ s₁' h₁'=>?_) fun _ _ h'=>h')
    refine wpAny_bind (wpAny_mono h₁' (fun _ s₂ h₂=>wpAny_bind (wpAny_mono h₂ (fun ok s₃ h₃=>?_) fun _ _ h'=>h')) fun _ _ h'=>h')
    cases ok with
    | false=>exact wpAny_pure ⟨rfl,h₃⟩
    | true =>
      exact wpAny_bind (wpAny_bind (wpAny_mono h₃ (fun x s₄ h₄=>wpAny_bind (wpAny_mono h₄ (fun _ s₅ h₅=>wpAny_pure (wpAny_pure ⟨rfl,h₅⟩)) fun _ _ h'=>h')) fun _ _ h'=>h'))
end
theorem ybD {α:Type} {x:Str} {k:α}:∀ {l:List (Str×α)},l.lookup x=some k→(x,k)∈l:=fun h=>PySem.mem_of_lookup h
theorem ybl {scope:Scope} {env:Env} (h:∀x∈scope.names,x.2 = .free→∃c,env.cells.lookup x.1=some c) :
    ∃cl,closureFor scope env=pure cl∧(∀n c,cl.lookup n=some c→env.cells.lookup n=some c)∧(∀n,(n,NameKind.free)∈scope.names→∃c,cl.lookup n=some c):=by
  have aux:∀(names:List (Str×NameKind)) (cs:List (Str×Addr)),(∀x∈names,x.2 = .free→∃c,env.cells.lookup x.1=some c)→(∀n c,cs.lookup n=some c→env.cells.lookup n=some c)→
      ∃cl,(forIn names cs fun x r=>if (x.2==NameKind.free)=true then do let a ←cellOf env x.1;pure (ForInStep.yield ((x.1,a)::r)) else pure (ForInStep.yield r):Sem (List (Str×Addr)))=pure cl∧
        (∀n c,cl.lookup n=some c→env.cells.lookup n=some c)∧(∀n,((n,NameKind.free)∈names∨∃c,cs.lookup n=some c)→∃c,cl.lookup n=some c):=by
    intro names
    induction names with
    | nil=>intro cs _ hc;exact ⟨cs,rfl,hc,fun n h=>h.elim (fun z=>nomatch z) id⟩
    | cons x r ih =>
      intro cs hx hc
      obtain ⟨n,k⟩:=x
      have hr:∀x∈r,x.2 = .free→∃c,env.cells.lookup x.1=some c:=fun y hy=>hx y (List.mem_cons_of_mem _ hy)
      by_cases hk:k = .free
      · subst hk
        obtain ⟨c,e⟩:=hx (n,.free) List.mem_cons_self rfl
        have hc':∀m d,List.lookup m ((n,c)::cs)=some d→env.cells.lookup m=some d:=fun m d hm=>by
          rw [List.lookup_cons] at hm
          cases hb:m==n with
          | true=>rw [hb] at hm;cases hm;rw [eq_of_beq hb];exact e
          | false=>rw [hb] at hm;exact hc m d hm
        obtain ⟨cl,h1,h2,h3⟩:=ih ((n,c)::cs) hr hc'
        refine ⟨cl,?_,h2,fun m hm=>h3 m ?_⟩
        · rw [List.forIn_cons]
          have e2:cellOf env n=pure c:=by unfold cellOf;rw [e]
          simp only [beq_self_eq_true,if_true,e2]
          exact h1
        · rcases hm with hm | ⟨d,hm⟩
          · rcases List.mem_cons.mp hm with q|q
            · cases q;exact .inr ⟨c,by rw [List.lookup_cons,beq_self_eq_true]⟩
            · exact .inl q
          · refine .inr ?_
            rw [List.lookup_cons]
            cases hb:m==n with
            | true=>exact ⟨c,rfl⟩
            | false=>exact ⟨d,hm⟩
      · obtain ⟨cl,h1,h2,h3⟩:=ih cs hr hc
        refine ⟨cl,?_,h2,fun m hm=>h3 m ?_⟩
        · rw [List.forIn_cons]
          have:(k==NameKind.free)=false:=by simpa using hk
          simp only [this,Bool.false_eq_true,if_false]
          exact h1
        · rcases hm with hm|hm
          · rcases List.mem_cons.mp hm with q|q
            · cases q;exact absurd rfl hk
            · exact .inl q
          · exact .inr hm
  obtain ⟨cl,h1,h2,h3⟩:=aux scope.names [] h (fun n c z=>by simp at z)
  refine ⟨cl,?_,h2,fun n hn=>h3 n (.inl hn)⟩
  simp only [closureFor]
  rw [h1]
  rfl
theorem ya5 {env:Env}:∀ {names:List (Str×NameKind)} {x:Str} {k:NameKind},
    (names.map fun (n,k)=>if (k==NameKind.free&&env.scope.kind==.function&&env.kindOf n==some .cell) then (n,NameKind.cell) else (n,k)).lookup x=some k→(k = .cell∨k = .free)→
    names.lookup x=some .free∨names.lookup x=some .cell
  | [],_,_,h,_=>by simp at h
  | (n,q)::r,x,k,h,hk=>by
    have ih:=@ya5 env r x k
    rw [List.map_cons,List.lookup_cons] at h
    rw [List.lookup_cons]
    by_cases hc:(q==NameKind.free&&env.scope.kind==.function&&env.kindOf n==some .cell)=true
    · simp only [if_pos hc] at h
      cases hx:x==n with
      | true =>
        have:q = .free:=by
          have:=(Bool.and_eq_true_iff.mp (Bool.and_eq_true_iff.mp hc).1).1
          exact eq_of_beq this
        simp [this]
      | false=>rw [hx] at h;exact ih h hk
    · simp only [if_neg hc] at h
      cases hx:x==n with
      | true =>
        rw [hx] at h
        cases h
        rcases hk with rfl|rfl
        · exact .inr rfl
        · exact .inl rfl
      | false=>rw [hx] at h;exact ih h hk
theorem yb7 {env:Env}:∀ {names:List (Str×NameKind)} {x:Str},names.lookup x=some .free→
    (names.map fun (n,k)=>if (k==NameKind.free&&env.scope.kind==.function&&env.kindOf n==some .cell) then (n,NameKind.cell) else (n,k)).lookup x=some .cell∨
    (names.map fun (n,k)=>if (k==NameKind.free&&env.scope.kind==.function&&env.kindOf n==some .cell) then (n,NameKind.cell) else (n,k)).lookup x=some .free
  | [],_,h=>by simp at h
  | (n,q)::r,x,h=>by
    have ih:=@yb7 env r x
    rw [List.map_cons,List.lookup_cons]
    rw [List.lookup_cons] at h
    by_cases hc:(q==NameKind.free&&env.scope.kind==.function&&env.kindOf n==some .cell)=true
    · simp only [if_pos hc]
      cases hx:x==n with
      | true=>exact .inl rfl
      | false=>rw [hx] at h;exact ih h
    · simp only [if_neg hc]
      cases hx:x==n with
      | true=>rw [hx] at h;cases h;exact .inr rfl
      | false=>rw [hx] at h;exact ih h
noncomputable def cxC (X:Cx) (N:List Str) (scope:Scope) (cl:List (Str×Addr)) (C:Addr) (fp:List Addr) (s:Shared) (H:Hp):Cx :=
  { prog:=X.prog,w:=X.w,K:=X.K,mg:=X.mg,base:=X.base,A:=X.A,N:=N,s₀:=s,H₀:=H,env:=compEnvC scope cl C X.env,outer:=X.stack,stack:=X.stack,ex:=fp,fn:=fun _=>false,calm:=X.calm,pn:=[],xe:=fun _ _=>False }
structure CSc (M:List Str) (sc:Scope) (tg cp:List Str) (ci:List Nat) (scope:Scope):Prop where
  kind:scope.kind = .function
  nocell:∀x∈scope.names,x.2≠.cell
  loc:∀x∈scope.names,x.2 = .local→scope.names.lookup x.1=some .local
  free:∀x∈scope.names,x.2 = .free→sc.names.lookup x.1=some .cell∨sc.names.lookup x.1=some .free
  cap:∀x∈cp,scope.names.lookup x=some .free
  at_:ci.map (M[·]?)=cp.map some
  nd:(tg++cp).Nodup
noncomputable def capσ (k:Nat) (ci:List Nat) (σ:St):St:=List.replicate k none++ci.map fun i=>(σ[i]?).join
noncomputable abbrev zg7:=Nat→Nat→List V→Hp→Prop
noncomputable def zgz (wi:TI) (k:Nat) (ci:List Nat) (g:TG) (ti:TT) (te:TE):TE:=fun σ H Q=>wi σ H fun J H1=>∃W:zg7,(∃m,W 0 m [] H1)∧∀i m acc H,W i m acc H→
  (J.stop i H∧∀D,H D=none→Q (.ref D) (upd H D (.lst acc)))∨
  (J.go i H∧acc.length<sizeLine∧∃N:List V→Hp→Prop,(∀acc' H',N acc' H'→∃m',m'<m∧W (i+1) m' acc' H')∧∀x H',J.yld i H x H'→g x (capσ k ci σ) H' fun σ2 H2=>ti σ2 H2 fun b H3=>if b=true then te σ2 H3 fun v H4=>N (acc++[v]) H4 else N acc H3)
noncomputable def PIfs (X:Cx) (ifs:List Expr) (t:TT):Prop :=
  ∀(pins:List (Addr×Obj)) (s:Shared) (σ:St) (H:Hp) (Q:Bool→Hp→Prop),Inv X pins σ H s→t σ H Q→
    wpAny (model X.prog X.w) X.A (forIn ifs true fun c r=>if r=true then do let ok ←isTrue c X.env (eval c X.env);pure (ForInStep.yield ok) else pure (ForInStep.yield r)) (TP X pins σ Q) X.xe s
noncomputable def yhp:TT:=fun _ H Q=>Q true H
theorem yaw {X:Cx}:PIfs X [] yhp:=fun pins s σ H Q I h=>wpAny_tests_nil ⟨H,I,h⟩
theorem zbE {X:Cx} {c:Expr} {t:TT} (h:PT X c t):PIfs X [c] t:=fun pins s σ H Q I hq=>wpAny_tests_one (h pins s σ H Q I hq)
section
variable {X:Cx}
structure Gone (X:Cx) (pins:List (Addr×Obj)) (H:Hp) (s:Shared) (C:Addr):Prop where
  ns:∃m,s.heap.Ns C m
  free:H C=none
  ne:C≠X.env.locals
  ab:X.s₀.heap.objs.size≤C
  cells:∀x c,X.env.cells.lookup x=some c→c≠C
  pins:∀p∈X.pn++pins,p.1≠C
  nofs:C∉X.fs
theorem zed {elt target iter:Expr} {ifs:List Expr} {scope:Scope} {pos:Pos} {tg cp:List Str} {ci:List Nat} {wi:TI} {g:TG} {ti:TT} {te:TE}
    {pins:List (Addr×Obj)} {s:Shared} {σ:St} {H:Hp} {Q:VK} {cl:List (Str×Addr)}
    (S:CSc X.N X.env.scope tg cp ci scope) (hcalm:X.calm=true) (hi:PI X target iter wi)
    (hcl1:∀n c,cl.lookup n=some c→X.env.cells.lookup n=some c) (hcl2:∀n,(n,NameKind.free)∈scope.names→∃c,cl.lookup n=some c)
    (hg:∀C fp s H,PG (cxC X (tg++cp) scope cl C fp s H) target g) (ht:∀C fp s H,PIfs (cxC X (tg++cp) scope cl C fp s H) ifs ti) (he:∀C fp s H,PE (cxC X (tg++cp) scope cl C fp s H) elt te)
    (I:Inv X pins σ H s) (h:zgz wi tg.length ci g ti te σ H Q) :
    wpAny (model X.prog X.w) X.A (eval iter X.env) (fun x s₁=>wpAny (model X.prog X.w) X.A (pyIter x) (fun it s₂=>wpAny (model X.prog X.w) X.A (newList []) (fun acc s₃ =>
      wpAny (model X.prog X.w) X.A (newFunctionEnv scope X.env.globals cl [] X.env.qual none .none (some X.env)) (fun cenv s₄ =>
        codeAny (model X.prog X.w) X.A (.compStart (.ListComp elt [⟨target,iter,ifs,0⟩] scope pos) 0 it acc { cenv with scope:=relabel scope X.env })
          (fun r s'=>∃D vs H',acc = .ref D∧r = .ok .next∧Inv X pins σ (upd H' D (.lst vs)) s'∧H' D=none∧Gone X pins (upd H' D (.lst vs)) s' cenv.locals∧∀D',H' D'=none→Q (.ref D') (upd H' D' (.lst vs))) s₄) X.xe s₃) X.xe s₂) X.xe s₁) X.xe s:=by
  refine thn (hi pins s σ H _ I h) fun v s1 h1=>thn h1 fun itv s2 h2=>?_
  obtain ⟨it,fp,tn,J,H2,e,I2,T,st2,f2,W,⟨m0,w0⟩,turn⟩:=h2
  subst e
  refine wpAny_newObj_type (wpAny_newFunctionEnv S.nocell (by intro y hy;simp at hy) (fun h₁ hns₁ hsb₁=>?_) S.kind)
  dsimp only at hns₁ hsb₁ ⊢
  generalize hHL:s2.heap.push { cls:=.type "list",dict:=none,data:=.seq ([]:List Value).toArray }=HL at hns₁ hsb₁ ⊢
  have hC:HL.objs.size=s2.heap.objs.size+1:=by rw [←hHL,Heap.size_push]
  generalize hD:s2.heap.objs.size=D at hC ⊢
  generalize hCC:HL.objs.size=C at hns₁ hsb₁ hC ⊢
  have hDC:D≠C:=by lia
  have old:∀b o,s2.heap.get? b=some o→h₁.get? b=some o:=fun b o e=>by
    have lt:s2.heap.objs.size≥Nat.succ b:=Heap.lt_size e
    refine hsb₁.extBut b o (show @Ne Nat b C by lia) (Heap.get?_push_of_some _ (hHL ▸ Heap.get?_push_of_some _ e))
  have hD1:h₁.get? D=some { cls:=.type "list",data:=.seq ([]:List Value).toArray 0 }:=by
    refine hsb₁.extBut D _ hDC (Heap.get?_push_of_some _ ?_)
    rw [←hHL,←hD]
    exact Heap.get?_push_size _ rfl
  have fD:H2 D=none:=I2.hok.fresh (by lia)
  have fC:H2 C=none:=I2.hok.fresh (by lia)
  let X':Cx:=cxC X (tg++cp) scope cl C fp s2 H2
  have ok':X'.Ok:=by
    refine ⟨I2.ok.mod,?_,I2.ok.glob,I2.ok.blt,?_,?_,?_,?_,I2.ok.hd,I2.ok.frames,.inl rfl,?_,I2.bs,Nat.le_trans I2.ok.bsz I2.sz,?_,?_,I2.stack,I2.stkFree⟩
    · exact S.kind
    · show s2.heap.objs.size≤C;lia
    · intro x y c hx hy;exact I2.ok.inj x y c (hcl1 x c hx) (hcl1 y c hy)
    · intro x hx
      have hx':(relabel scope X.env).names.lookup x=some .cell∨(relabel scope X.env).names.lookup x=some .free:=hx
      have q:scope.names.lookup x=some .free∨scope.names.lookup x=some .cell:=by
        rcases hx' with z|z
        · exact ya5 z (.inl rfl)
        · exact ya5 z (.inr rfl)
      rcases q with q|q
      · exact hcl2 x (ybD q)
      · exact absurd rfl (S.nocell _ (ybD q))
    · intro x c hx;cases hx
    · intro b hb
      obtain ⟨o,eo,_⟩:=T.obj _ _ st2 b hb
      have lt:s2.heap.objs.size≥Nat.succ b:=Heap.lt_size eo
      exact ⟨by show @Ne Nat b C;lia,fun x c hx=>(f2 b hb).2.2.2.2.1 x c (hcl1 x c hx)⟩
    · intro b o e hb
      rcases (f2 b hb).2.2.2.1 with z|z
      · exact I2.ok.noex b o e z
      · have l1:X.base.objs.size≥Nat.succ b:=Heap.lt_size e
        have l2:X.base.objs.size≤X.s₀.heap.objs.size:=I2.ok.bsz
        have l3:X.s₀.heap.objs.size≤(b:Nat):=z
        lia
    · intro b hb hbs
      rcases List.mem_cons.mp (I2.stkSub b hbs) with z|z
      · exact (f2 b hb).2.1 z
      · exact (f2 b hb).2.2.1 z
  have capLen:(capσ tg.length ci σ).length=X'.N.length:=by
    show (List.replicate tg.length none++ci.map fun i=>(σ[i]?).join).length=(tg++cp).length
    have:=congrArg List.length S.at_
    simp only [List.length_map] at this
    simp [this]
  have capLook:∀(h':Heap) (m':Str→Option Value),(∀x c o,X.env.cells.lookup x=some c→s2.heap.get? c=some o→∃sl,h'.get? c=some { o with slots:=sl })→
      ∀(i:Nat) (x:Str) (v:V),X'.N[i]?=some x→(capσ tg.length ci σ)[i]?=some (some v)→Vis X'.env.scope x→∃u,RelV v u∧Look X'.env h' m' x u:=by
    intro h' m' hcell i x v e1 e2 e3
    have e1':(tg++cp)[i]?=some x:=e1
    have e2':(List.replicate tg.length none++ci.map fun i=>(σ[i]?).join)[i]?=some (some v):=e2
    by_cases hi':i<tg.length
    · rw [List.getElem?_append_left (by simpa using hi'),List.getElem?_replicate] at e2'
      split at e2' <;> cases e2'
    · rw [List.getElem?_append_right (by simpa using hi'),List.length_replicate,List.getElem?_map] at e2'
      rw [List.getElem?_append_right (by lia)] at e1'
      cases hj:ci[i-tg.length]? with
      | none=>rw [hj] at e2';cases e2'
      | some j =>
        rw [hj] at e2'
        have e2'':(σ[j]?).join=some v:=Option.some.inj e2'
        have e4:σ[j]?=some (some v):=by
          cases q:σ[j]? with
          | none=>rw [q] at e2'';cases e2''
          | some z=>rw [q] at e2'';exact congrArg some e2''
        have e5:X.N[j]?=some x:=by
          have:=congrArg (·[i-tg.length]?) S.at_
          simp only [List.getElem?_map,hj,e1',Option.map_some] at this
          exact Option.some.inj this
        have hx:scope.names.lookup x=some .free:=S.cap x (List.mem_of_getElem? e1')
        have hk:=S.free (x,.free) (ybD hx) rfl
        obtain ⟨m,hn,hl⟩:=I2.loc
        obtain ⟨u,r,l⟩:=hl j x v e5 e4 (.inr hk)
        refine ⟨u,r,.inr ⟨?_,?_⟩⟩
        · exact yb7 hx
        · rcases l with ⟨k1,_⟩ | ⟨_,c,k2,k3⟩
          · have k1':X.env.scope.names.lookup x=some .local:=k1
            rcases hk with z|z <;> (rw [z] at k1';cases k1')
          · obtain ⟨c',hc'⟩:=hcl2 x (ybD hx)
            have:=hcl1 x c' hc'
            rw [k2] at this;cases this
            obtain ⟨o,ho,hd⟩:=k3
            obtain ⟨sl,q⟩:=hcell x c o k2 ho
            exact ⟨c,hc',_,q,hd⟩
  have I':∀tk,Inv X' [] (capσ tg.length ci σ) H2 { s2 with heap:=h₁,toks:=tk }:=fun tk=>by
    refine ⟨ok',rfl,I2.bare,Un.kept old,⟨_,hns₁,capLook _ _ fun x c o _ e=>⟨o.slots,old c o e⟩⟩,fun x c hx=>?_,fC,fun x c hx=>I2.freeC x c (hcl1 x c hx),fun p hp=>absurd (show p∈([]:List (Addr×Obj)) from hp) (by simp),I2.hok.kept old,?_⟩
    · obtain ⟨v,o,ho,hd⟩:=I2.cell x c (hcl1 x c hx)
      exact ⟨v,o,old c o ho,hd⟩
    · exact capLen
  have recap:∀ {pl pl':List (Addr×Obj)} {σ':St} {H':Hp} {s':Shared},Inv X' (pl++pl') σ' H' s'→Inv X' pl (capσ tg.length ci σ) H' s':=fun {pl pl' σ' H' s'} J=>by
    obtain ⟨m,hn,_⟩:=J.loc
    have u:Un (frs X.stack) fp H2 H' s2.heap s'.heap:=J.base
    exact ⟨J.ok,J.os,J.bare,J.base,⟨m,hn,capLook _ _ fun x c o hx e=>u.any e (I2.freeC x c hx) fun hb=>(f2 c hb).2.2.2.2.1 x c hx rfl⟩,J.cell,J.free,J.freeC,
      fun p hp=>(List.mem_append.mp hp).elim (fun z=>J.pin p (List.mem_append_left _ z)) (fun z=>J.pin p (List.mem_append_right _ (List.mem_append_left _ z))),J.hok,capLen⟩
  have stat:∀ {H':Hp},(∀b∈fp,H' b=none)→∀b∈fp,FpOk X' [] H' b:=fun hn b hb=>by
    obtain ⟨o,eo,_⟩:=T.obj _ _ st2 b hb
    have lt:s2.heap.objs.size≥Nat.succ b:=Heap.lt_size eo
    exact ⟨hn b hb,by show @Ne Nat b C;lia,ok'.exfs b hb,.inl hb,(ok'.exf b hb).2,fun p hp=>absurd (show p∈([]:List (Addr×Obj)) from hp) (by simp)⟩
  have hDfp:D∉fp:=fun hb=>by obtain ⟨o,eo,_⟩:=T.obj _ _ st2 D hb;have lt:s2.heap.objs.size≥Nat.succ D:=Heap.lt_size eo;lia
  have hDcell:∀x c,X'.env.cells.lookup x=some c→c≠D:=fun x c hx=>by
    obtain ⟨v,o,ho,hd⟩:=I2.cell x c (hcl1 x c hx)
    have lt:s2.heap.objs.size≥Nat.succ c:=Heap.lt_size ho
    intro z;have z':@Eq Nat c D:=z;lia
  have hDfs:D∉X'.fs:=fun hb=>by
    have:D∈X.env.locals::X.fs:=I2.stkSub D hb
    rcases List.mem_cons.mp this with z|z
    · have l1:s2.heap.objs.size≥Nat.succ X.env.locals:=I2.lt
      have z':@Eq Nat D X.env.locals:=z
      lia
    · exact I2.nofs (show s2.heap.objs.size≤D by lia) z
  have fin:∀ {pl:List (Addr×Obj)} {σ':St} {H':Hp} {s':Shared} {vs:List V} {us:List Value} {k:Nat},Inv X' pl σ' H' s'→H' D=none→s'.heap.get? D=some { cls:=.type "list",data:=.seq us.toArray k }→Vals vs us→vs.length≤sizeLine→
      (∀D',H' D'=none→Q (.ref D') (upd H' D' (.lst vs)))→
      ∃D' vs H',Value.ref D = .ref D'∧(Except.ok Flow.next:Result) = .ok .next∧Inv X pins σ (upd H' D' (.lst vs)) s'∧H' D'=none∧Gone X pins (upd H' D' (.lst vs)) s' C∧∀D',H' D'=none→Q (.ref D') (upd H' D' (.lst vs)):=by
    intro pl σ' H' s' vs us k J f e r z q
    have u:Un (frs X.stack) fp H2 H' s2.heap s'.heap:=J.base
    have lt:∀ {b:Addr} {o:Obj},s2.heap.get? b=some o→b≠D:=fun {b o} eb zb=>by
      have l1:s2.heap.objs.size≥Nat.succ b:=Heap.lt_size eb
      have l2:@Eq Nat b D:=zb
      lia
    have u2:Un (frs X.stack) fp H2 (upd H' D (.lst vs)) s2.heap s'.heap :=
      ⟨u.keep,u.slot,fun b o eb n hx=>by rw [zad (lt eb)];exact u.free b o eb n hx,u.there,
       fun b xs eb=>by rw [zad (zac eb fD)];exact u.tups b xs eb,fun b o uu eb=>by rw [zad (zac eb fD)];exact u.frzs b o uu eb,fun b ps eb=>by rw [zad (zac eb fD)];exact u.tbls b ps eb⟩
    have hok2:HOk X.prog X.w (upd H' D (.lst vs)) s'.heap:=fun b o eb=>by
      by_cases hb:b=D
      · subst hb
        rw [zaa] at eb;cases eb
        exact ⟨z,us,k,r,e⟩
      · rw [zad hb] at eb
        refine (J.hok b o eb).stay (fun _ _ _ q=>q) (fun c hc=>?_) fun c xs hc=>?_
        · rw [zad (fun zz=>by rw [zz,f] at hc;cases hc)];exact hc
        · rw [zad (fun zz=>by rw [zz,f] at hc;cases hc)];exact hc
    refine ⟨D,vs,H',rfl,rfl,I2.call' (ch:=fp) J.os u2 hok2 J.bare ?_,f,⟨?_,?_,?_,?_,?_,?_,?_⟩,q⟩
    · intro b hb
      obtain ⟨_,a2,_,a4,a5,a6⟩:=f2 b hb
      exact ⟨a4,a2,a5,a6⟩
    · obtain ⟨m,hn,_⟩:=J.loc;exact ⟨m,hn⟩
    · rw [zad (Ne.symm hDC)];exact J.free
    · have l1:s2.heap.objs.size≥Nat.succ X.env.locals:=I2.lt
      intro zz;have zz':@Eq Nat C X.env.locals:=zz;lia
    · have l1:X.s₀.heap.objs.size≤s2.heap.objs.size:=I2.sz
      show X.s₀.heap.objs.size≤C;lia
    · intro x c hx zz
      obtain ⟨v,o,ho,hd⟩:=I2.cell x c hx
      have l1:s2.heap.objs.size≥Nat.succ c:=Heap.lt_size ho
      have zz':@Eq Nat c C:=zz
      lia
    · intro p hp zz
      have l1:s2.heap.objs.size≥Nat.succ p.1:=Heap.lt_size (I2.pin p hp).1
      have zz':@Eq Nat p.1 C:=zz
      lia
    · exact I2.nofs (show s2.heap.objs.size≤C by lia)
  have loop:∀tk,codeAny (model X.prog X.w) X.A (.compLoop (.ListComp elt [⟨target,iter,ifs,0⟩] scope pos) 0 (.ref it) (.ref D) (compEnvC scope cl C X.env))
      (fun r s'=>∃D' vs H',Value.ref D = .ref D'∧r = .ok .next∧Inv X pins σ (upd H' D' (.lst vs)) s'∧H' D'=none∧Gone X pins (upd H' D' (.lst vs)) s' C∧∀D',H' D'=none→Q (.ref D') (upd H' D' (.lst vs))) { s2 with heap:=h₁,toks:=tk }:=by
    intro tk
    refine ydV (fun n s'=>∃i vs us k H',Inv X' [] (capσ tg.length ci σ) H' s'∧tn i s'.heap∧(∀b∈fp,H' b=none)∧H' D=none∧s'.heap.get? D=some { cls:=.type "list",data:=.seq us.toArray k }∧Vals vs us∧vs.length≤sizeLine∧W i n vs H') ?_ m0
      ⟨0,[],[],0,H2,I' tk,T.keep _ _ _ st2 (fun b hb o e=>old b o e),fun b hb=>(f2 b hb).1,fD,hD1,.nil,Nat.zero_le _,w0⟩
    rintro n s3 ⟨i,vs,us,k,H3,I3,st3,fr3,fD3,hD3,rv3,z3,w3⟩
    let pD:List (Addr×Obj):=[(D,{ cls:=.type "list",data:=.seq us.toArray k })]
    have pinD:∀ {σ':St} {H':Hp} {s':Shared},Inv X' [] σ' H' s'→H' D=none→s'.heap.get? D=some { cls:=.type "list",data:=.seq us.toArray k }→Inv X' pD σ' H' s':=fun {σ' H' s'} J f e =>
      J.pins_of fun p hp=>by
        have:p=(D,{ cls:=.type "list",data:=.seq us.toArray k }):=by simpa [pD] using hp
        subst this
        exact ⟨e,f,hDC,hDfs,fun v z=>by cases z⟩
    have statD:∀ {H':Hp},(∀b∈fp,H' b=none)→∀b∈fp,FpOk X' pD H' b:=fun hn b hb=>by
      obtain ⟨a1,a2,a3,a4,a5,_⟩:=stat hn b hb
      refine ⟨a1,a2,a3,a4,a5,fun p hp=>?_⟩
      have:p=(D,{ cls:=.type "list",data:=.seq us.toArray k }):=by
        have hp':p∈([]:List (Addr×Obj))++pD:=hp
        simpa [pD] using hp'
      subst this
      exact fun z=>hDfp (by rw [show D=b from z];exact hb)
    rcases turn i n vs H3 w3 with ⟨stop,qn⟩ | ⟨go,zl,N,hN,step⟩
    · refine thn (T.done X' rfl rfl rfl hcalm i pD s3 _ H3 _ (pinD I3 fD3 hD3) (statD fr3) st3 stop) fun r s4 ⟨hr,I4⟩=>?_
      subst hr
      have eD:s4.heap.get? D=some { cls:=.type "list",data:=.seq us.toArray k }:=(I4.pin (D,_) (by simp [pD])).1
      exact fin I4 fD3 eD rv3 z3 qn
    · refine thn (T.item X' rfl rfl rfl hcalm i pD s3 _ H3 _ (pinD I3 fD3 hD3) (statD fr3) st3 go) fun r s4 ⟨u,hr,h4⟩=>?_
      subst hr
      refine thn h4 fun _ s5 ⟨x,H5,I5,r5,y5,st5,fr5⟩=>?_
      have I5':=I5.pinned (statD fr5) (T.obj _ _ st5)
      refine thn (hg C fp s2 H2 _ s5 _ H5 x u _ I5' r5 (step x H5 y5)) fun _ s6 ⟨σ6,H6,I6,q6⟩=>?_
      refine thn (ht C fp s2 H2 _ s6 σ6 H6 _ I6 q6) fun b s7 ⟨H7,I7,q7⟩=>?_
      have again:∀ {s8:Shared} {H8:Hp},Inv X' (pD++zdv fp s5.heap) σ6 H8 s8→Inv X' pD (capσ tg.length ci σ) H8 s8∧tn (i+1) s8.heap∧(∀b∈fp,H8 b=none)∧H8 D=none∧s8.heap.get? D=some { cls:=.type "list",data:=.seq us.toArray k }:=fun {s8 H8} I8=>by
        have e8:=I8.pin (D,_) (List.mem_append_right _ (List.mem_append_left _ (by simp [pD] <;> rfl)))
        refine ⟨?_,T.keep _ _ _ st5 fun b hb o e=>(I8.pin (b,o) (List.mem_append_right _ (List.mem_append_right _ (ybB hb e)))).1,fun b hb=>?_,e8.2.1,e8.1⟩
        · exact recap I8
        · obtain ⟨o,e,d⟩:=T.obj _ _ st5 b hb
          exact (I8.pin (b,o) (List.mem_append_right _ (List.mem_append_right _ (ybB hb e)))).2.1
      cases b with
      | false =>
        obtain ⟨m',hm,w7⟩:=hN _ _ q7
        obtain ⟨J,t7,f7,d7,e7⟩:=again I7
        exact ⟨m',hm,i+1,vs,us,k,H7,J.pins_of (fun p hp=>nomatch hp),t7,f7,d7,e7,rv3,z3,w7⟩
      | true =>
        simp only [if_true] at q7 ⊢
        refine thn (he C fp s2 H2 _ s7 σ6 H7 _ I7 q7) fun y s8 ⟨yv,H8,I8,r8,q8⟩=>?_
        obtain ⟨m',hm,w8⟩:=hN _ _ q8
        obtain ⟨J,t8,f8,d8,e8⟩:=again I8
        refine call_meets F.slot_list_append ⟨_,e8,rfl⟩ F.entry_list_append (F.args_list_append_2 _ _) (PySem.list_append D us.toArray k y (by rw [List.size_toArray,←rv3.length];exact z3)) ⟨e8,?_⟩
        have q:=PySem.IsL.update e8 (·.push y)
        have J0:Inv X' [] (capσ tg.length ci σ) H8 s8:=J.pins_of (fun p hp=>nomatch hp)
        refine ⟨m',hm,i+1,vs++[yv],us++[y],_,H8,J0.turned (it:=D) (t':=s8.toks) (fun b o hb hu=>(Heap.get?_update_other s8.heap _ (Ne.symm hb)).trans hu) d8 hDC (.inr (by show s2.heap.objs.size≤D;lia)) hDcell (fun p hp=>absurd (show p∈([]:List (Addr×Obj)) from hp) (by simp)),?_,f8,d8,by simpa using q,rv3.append (.cons r8 .nil),by simp;lia,w8⟩
        exact T.keep _ _ _ t8 fun b hb o hu=>(Heap.get?_update_other s8.heap _ (fun z=>hDfp (by rw [z];exact hb))).trans hu
  exact codeAny_compStart_list (loop _) (T.self X.A 0 _ _ _ (T.keep _ _ _ st2 (fun b hb o e=>old b o e)) (loop _))
theorem Gone.turned {pins:List (Addr×Obj)} {σ:St} {H:Hp} {s:Shared} {C:Addr} {h':Heap} (G:Gone X pins H s C) (I:Inv X pins σ H s) (hs:Heap.SameBut C s.heap h'):Inv X pins σ H { s with heap:=h' } :=
  I.turned (t':=s.toks) (fun b o hb e=>hs.extBut b o hb e) G.free G.ne (.inr G.ab) G.cells G.pins
theorem zfL {elt target iter:Expr} {ifs:List Expr} {scope:Scope} {pos:Pos} {tg cp:List Str} {ci:List Nat} {wi:TI} {g:TG} {ti:TT} {te:TE}
    (S:CSc X.N X.env.scope tg cp ci scope) (hcalm:X.calm=true) (hi:PI X target iter wi)
    (hg:∀cl C fp s H,PG (cxC X (tg++cp) scope cl C fp s H) target g) (ht:∀cl C fp s H,PIfs (cxC X (tg++cp) scope cl C fp s H) ifs ti) (he:∀cl C fp s H,PE (cxC X (tg++cp) scope cl C fp s H) elt te)
    (hs:∀x,foldedSetIterable iter X.env x=pure x:=by intro _;rfl):PE X (.ListComp elt [⟨target,iter,ifs,0⟩] scope pos) (zgz wi tg.length ci g ti te):=by
  intro pins s σ H Q I h
  obtain ⟨cl,hclos,h1,h2⟩:=ybl (scope:=scope) (env:=X.env) fun x hx hf=>I.ok.has x.1 (S.free x hx hf)
  rw [eval_ListComp]
  refine wpAny_comprehension_free (use:=none) rfl hs hclos S.kind S.loc (thn (zed S hcalm hi h1 h2 (hg cl) (ht cl) (he cl) I h) fun x s1 q1=>thn q1 fun it s2 q2=>thn q2 fun acc s3 q3=>thn q3 fun cenv s4 q4=>codeAny_mono q4 fun r s' q=>?_)
  obtain ⟨D,vs,H',e1,e2,I',f,G,q⟩:=q
  subst e1 e2
  obtain ⟨m,hn⟩:=G.ns
  exact ⟨m,hn,fun h' hsb=>⟨.ref D,_,G.turned I' hsb,rfl,q D f⟩⟩
theorem za7 {i:Nat} {y:Str} {py:Pos} {elt target iter:Expr} {ifs:List Expr} {scope:Scope} {pos spos:Pos} {tg cp:List Str} {ci:List Nat} {wi:TI} {g:TG} {ti:TT} {te:TE}
    (hN:X.N.Nodup) (hi':X.N[i]?=some y) (hy:Loc X.env.scope y)
    (S:CSc X.N X.env.scope tg cp ci scope) (hcalm:X.calm=true) (hi:PI X target iter wi)
    (hg:∀cl C fp s H,PG (cxC X (tg++cp) scope cl C fp s H) target g) (ht:∀cl C fp s H,PIfs (cxC X (tg++cp) scope cl C fp s H) ifs ti) (he:∀cl C fp s H,PE (cxC X (tg++cp) scope cl C fp s H) elt te)
    (hsw:swapsWith (.ListComp elt [⟨target,iter,ifs,0⟩] scope pos) (some (.Name y py)) spos.line X.env=pure true:=by rfl)
    (hs:∀x,foldedSetIterable iter X.env x=pure x:=by intro _;rfl) (hf:X.fn y=true∨X.env.scope.names.lookup y=some .local:=by first|exact .inl rfl|exact .inr rfl|assumption) :
    PS X (.Assign [.Name y py] (.ListComp elt [⟨target,iter,ifs,0⟩] scope pos) spos) (tAsg (zgz wi tg.length ci g ti te) (yan i)):=by
  intro pins s σ H D I h
  obtain ⟨cl,hclos,h1,h2⟩:=ybl (scope:=scope) (env:=X.env) fun x hx hf=>I.ok.has x.1 (S.free x hx hf)
  rw [exec_Assign_Name_used _ _ _ _ hsw]
  refine wpAny_bind (wpAny_standAt (wpAny_bind ?_))
  show wpAny _ X.A (do let _ ←comprehension (.ListComp elt [⟨target,iter,ifs,0⟩] scope pos) scope X.env _ (newList []) false (eval iter X.env) (some (assign (.Name y py) X.env))) _ _ s
  refine wpAny_bind (wpAny_mono (wpAny_comprehension_free (use:=some (assign (.Name y py) X.env)) (Q:=fun _ s'=>SP X pins D .next s') rfl hs hclos S.kind S.loc
    (thn (zed S hcalm hi h1 h2 (hg cl) (ht cl) (he cl) I h) fun x s1 q1=>thn q1 fun it s2 q2=>thn q2 fun acc s3 q3=>thn q3 fun cenv s4 q4=>codeAny_mono q4 fun r s' q=>?_)) (fun _ s' hq=>wpAny_pure (wpAny_pure hq)) fun _ _ e=>e)
  obtain ⟨D',vs,H',e1,e2,I',f,G,q⟩:=q
  subst e1 e2
  show wpAny _ X.A (assign (.Name y py) X.env (.ref D')) _ _ _
  obtain ⟨m,o,es,ep,ho,hd,hk⟩:=G.ns
  have pin:Inv X ((cenv.locals,o)::pins) σ (upd H' D' (.lst vs)) s':=I'.pins_of fun p hp=>by
    rcases List.mem_cons.mp hp with z|z
    · subst z
      exact ⟨ho,G.free,G.ne,G.nofs,fun v z=>by rw [hd] at z;cases z⟩
    · exact I'.pin p (List.mem_append_right _ z)
  refine wpAny_assign_Name (za3 (v:=V.ref D') pin hN hi' hy (show RelV (.ref D') (.ref D') from rfl) (fun s2 I2=>?_) hf)
  have I3:Inv X pins (σ.set i (some (.ref D'))) (upd H' D' (.lst vs)) s2:=I2.pins_of fun p hp=>I2.pin p (List.mem_append_right _ (List.mem_cons_of_mem _ hp))
  have e2:=I2.pin (cenv.locals,o) (List.mem_append_right _ List.mem_cons_self)
  have G2:Gone X pins (upd H' D' (.lst vs)) s2 cenv.locals:=⟨⟨m,o,es,ep,e2.1,hd,hk⟩,G.free,G.ne,G.ab,G.cells,G.pins,G.nofs⟩
  exact ⟨m,⟨o,es,ep,e2.1,hd,hk⟩,fun h' hsb=>⟨_,_,G2.turned I3 hsb,q D' f⟩⟩
end
end L2
end
section
-- text: ExtB
set_option Elab.async false
set_option linter.all false
set_option maxRecDepth 100000
set_option maxHeartbeats 4000000
namespace L2
open PySem PySem.Spec PyProof.Rows
structure zcx (P:Program) (w:World) (A:Around) (a:Addr) (dep:List Addr) (ok:Nat→Heap→Prop) (val:Nat→Option Value):Prop where
  mem:a∈dep
  obj:∀k h,ok k h→∃o,h.get? a=some o∧(∀v,o.data≠.cell v)∧o.cls≠.type "zip"∧o.cls≠.type "enumerate"∧o.cls≠.type "tuple"
  keep:∀k h h',ok k h→(∀b∈dep,∀o,h.get? b=some o→h'.get? b=some o)→ok k h'
  item:∀k x (s:Shared) (Q:Value→Shared→Prop) (E:Value→Shared→Prop),ok k s.heap→val k=some x→(∀h',ok (k+1) h'→Heap.SameBut a s.heap h'→Q x { s with heap:=h' })→
    wpAny (model P w) A (Builtin.SmallTypes.nextOf (.ref a)) Q E s
  stop:∀k (s:Shared) (Q:Value→Shared→Prop) (E:Value→Shared→Prop),ok k s.heap→val k=none→
    (∀h' e,Heap.ExtBut a s.heap h'→(∃o,h'.get? e=some o∧o.cls = .type "StopIteration")→E (.ref e) { s with heap:=h' })→wpAny (model P w) A (Builtin.SmallTypes.nextOf (.ref a)) Q E s
section
variable {P:Program} {w:World} {A:Around}
theorem zgM {a l:Addr} {xs:Array Value} (hh:A.handled=none) (ne:l≠a):zcx P w A a [a,l] (fun k h=>h.IsListIter a l k∧h.IsList l xs) (fun k=>xs[k]?) where
  mem:=List.mem_cons_self
  obj:=fun k h z=>by
    obtain ⟨⟨o,e,c,d⟩,_⟩:=z
    exact ⟨o,e,fun v q=>(by rw [d] at q;cases q),(by rw [c];decide),(by rw [c];decide),(by rw [c];decide)⟩
  keep:=fun k h h' z q=>⟨z.1.at fun o e=>q a (by simp) o e,z.2.at fun o e=>q l (by simp) o e⟩
  item:=fun k x s Q E z e q=>wpAny_nextOf_list_item z.1 z.2 e fun h' h1 h2=>q h' ⟨h1,z.2.extBut h2.extBut ne⟩ h2
  stop:=fun k s Q E z e q=>wpAny_nextOf_list_end hh z.1 z.2 e q
theorem ycK {h h':Heap} {a l:Addr} {k:Nat} (x:h.IsTupleIter a l k) (e:∀o,h.get? a=some o→h'.get? a=some o):h'.IsTupleIter a l k:=let ⟨o,ho,r⟩:=x;⟨o,e _ ho,r⟩
theorem zeF {h h':Heap} {a:Addr} {xs:Array Value} (x:h.IsTuple a xs) (e:∀o,h.get? a=some o→h'.get? a=some o):h'.IsTuple a xs:=let ⟨o,ho,r⟩:=x;⟨o,e _ ho,r⟩
theorem ygR {a l:Addr} {xs:Array Value} (hh:A.handled=none) (ne:l≠a):zcx P w A a [a,l] (fun k h=>h.IsTupleIter a l k∧h.IsTuple l xs) (fun k=>xs[k]?) where
  mem:=List.mem_cons_self
  obj:=fun k h z=>by
    obtain ⟨⟨o,e,c,d⟩,_⟩:=z
    exact ⟨o,e,fun v q=>(by rw [d] at q;cases q),(by rw [c];decide),(by rw [c];decide),(by rw [c];decide)⟩
  keep:=fun k h h' z q=>⟨ycK z.1 fun o e=>q a (by simp) o e,zeF z.2 fun o e=>q l (by simp) o e⟩
  item:=fun k x s Q E z e q=>by
    obtain ⟨o,ho,hc,hd⟩:=id z.1
    obtain ⟨ol,hol,_,nl,hdl⟩:=id z.2
    unfold Builtin.SmallTypes.nextOf
    refine wpAny_bind (wpAny_callSpecial?_slot (name:=Str.ofString "__next__") z.1.typeIs F.slot_tuple_iterator_next (wpAny_call_entry F.slot_tuple_iterator_next z.1.typeIs F.entry_tuple_iterator_next ?_ (F.args_tuple_iterator_next_1 _)))
    show wpAny _ _ (field (.ref a) 0 >>= _) _ _ s;refine wpAny_bind (wpAny_field ho hd (x:=.ref l) rfl ?_)
    show wpAny _ _ (if (Value.ref l==Value.none)=true then _ else _) _ _ s;rw [if_neg (show ¬ ((Value.ref l==Value.none)=true) from Bool.false_ne_true)]
    show wpAny _ _ (field (.ref a) 1 >>= _) _ _ s;refine wpAny_bind (wpAny_field ho hd (x:=.int k 0) rfl ?_)
    show wpAny _ _ (seqItems? (.ref l) >>= _) _ _ s;refine wpAny_bind (wpAny_seqItems hol hdl ?_)
    simp only [Int.toNat_natCast,e]
    refine wpAny_bind (wpAny_setField ho hd (by simp) (wpAny_pure ⟨x,rfl,wpAny_pure (q _ ⟨?_,z.2.extBut (Heap.SameBut.update ..).extBut ne⟩ (Heap.SameBut.update ..))⟩))
    exact ⟨_,Heap.get?_update_self _ ho (Obj.isFreed_of_fields (Obj.data_mapFields hd _)),(Obj.cls_mapFields ..).trans hc,by rw [Obj.data_mapFields hd];simp [rawInt]⟩
  stop:=fun k s Q E z e q=>by
    obtain ⟨o,ho,hc,hd⟩:=id z.1
    obtain ⟨ol,hol,_,nl,hdl⟩:=id z.2
    unfold Builtin.SmallTypes.nextOf
    refine wpAny_bind (wpAny_callSpecial?_slot (name:=Str.ofString "__next__") z.1.typeIs F.slot_tuple_iterator_next (wpAny_call_entry F.slot_tuple_iterator_next z.1.typeIs F.entry_tuple_iterator_next ?_ (F.args_tuple_iterator_next_1 _)))
    show wpAny _ _ (field (.ref a) 0 >>= _) _ _ s;refine wpAny_bind (wpAny_field ho hd (x:=.ref l) rfl ?_)
    show wpAny _ _ (if (Value.ref l==Value.none)=true then _ else _) _ _ s;rw [if_neg (show ¬ ((Value.ref l==Value.none)=true) from Bool.false_ne_true)]
    show wpAny _ _ (field (.ref a) 1 >>= _) _ _ s;refine wpAny_bind (wpAny_field ho hd (x:=.int k 0) rfl ?_)
    show wpAny _ _ (seqItems? (.ref l) >>= _) _ _ s;refine wpAny_bind (wpAny_seqItems hol hdl ?_)
    simp only [Int.toNat_natCast,e]
    refine wpAny_bind (wpAny_rule (wpAny_bind (wpAny_setField ho hd (by simp) ?_)))
    show wpAny _ _ (newExc (.type "StopIteration") [] >>= _) _ _ _;refine wpAny_bind ?_
    simp only [newExc,newTuple]
    refine wpAny_bind (wpAny_newObj_type ?_ (by size_fits))
    refine wpAny_bind (m:=firstArgMember _ _) (wpAny_of_eq (a:=Value.none) (by first|rfl|(simp only [firstArgMember];rfl)) (wpAny_newObj_type ?_ (by size_fits)))
    simp only [raiseNew]
    refine wpAny_bind (wpAny_handled ?_)
    first|rw [show A.in1.handled=none from hh]|rw [hh]
    exact wpAny_bind (wpAny_pure (wpAny_throw (q _ _ (((Heap.SameBut.update ..).extBut.push _).push _) ⟨_,Heap.get?_push_size _ rfl,rfl⟩)))
end
structure ZAp (z TI TO:Addr) (d1 d2:List Addr) (i1 i2:Addr):Prop where
  a1:TI≠z
  a2:TO≠z
  a3:TI≠TO
  b1:z∉d1
  b2:z∉d2
  b3:TO∉d1
  b4:TO∉d2
  b5:TI≠i1
  b6:TI≠i2
  c1:i1∉d2
  c2:i2∉d1
noncomputable def zgd (h:Heap) (z TI TO T:Addr) (f:Bool):Prop:=h.get? z=some { cls:=.type "zip",data:=.fields #[rawInt T,.bool f,.bool false,.ref TI,.ref TO] }
section
variable {P:Program} {w:World} {A:Around} {s:Shared} {z TI TO i1 i2:Addr} {d1 d2:List Addr} {ok1 ok2:Nat→Heap→Prop} {v1 v2:Nat→Option Value}
theorem zcx.ext (S:zcx P w A i1 d1 ok1 v1) {k:Nat} {h h':Heap} {b:Addr} (o:ok1 k h) (e:Heap.ExtBut b h h') (n:b∉d1):ok1 k h':=S.keep k h h' o fun c hc ob eb=>e c ob (fun q=>n (q ▸ hc)) eb
theorem yeq {k:Nat} {x y p q:Value} {Q:Value→Shared→Prop} {E:Value→Shared→Prop} (D:ZAp z TI TO d1 d2 i1 i2) (S1:zcx P w A i1 d1 ok1 v1) (S2:zcx P w A i2 d2 ok2 v2)
    (hz:IsZip s.heap z TI TO .none) (hI:IsPair s.heap TI (.ref i1) (.ref i2)) (hO:IsPair s.heap TO p q) (o1:ok1 k s.heap) (o2:ok2 k s.heap) (e1:v1 k=some x) (e2:v2 k=some y)
    (hQ:∀g,zgd g z TI TO s.heap.objs.size false→g.objs.size=s.heap.objs.size+1→IsPair g TO x y→ok1 (k+1) g→ok2 (k+1) g→IsPair g s.heap.objs.size x y→(∀c o,c≠z→c≠TO→c≠i1→c≠i2→s.heap.get? c=some o→g.get? c=some o)→Q (.ref s.heap.objs.size) { s with heap:=g }) :
    wpAny (model P w) A (Builtin.«zip.__next__» ⟨[.ref z],[]⟩) (fun fin s'=>∃v,fin = .done (.ret v)∧Q v s') E s:=by
  have n1z:i1≠z:=fun e=>D.b1 (e ▸ S1.mem)
  have n2z:i2≠z:=fun e=>D.b2 (e ▸ S2.mem)
  have n1O:i1≠TO:=fun e=>D.b3 (e ▸ S1.mem)
  have n2O:i2≠TO:=fun e=>D.b4 (e ▸ S2.mem)
  show wpAny _ _ (field (.ref z) 2 >>= _) _ E s;refine wpAny_bind (wpAny_field hz rfl (x:=.bool false) rfl ?_)
  show wpAny _ _ (field (.ref z) 3 >>= _) _ E s;refine wpAny_bind (wpAny_field hz rfl (x:=.ref TI) rfl (wpAny_bind (wpAny_seqItems hI rfl ?_)))
  show wpAny _ _ (Builtin.SmallTypes.ownedTupleIsFree (.ref z) >>= _) _ E s;refine wpAny_bind ?_
  unfold Builtin.SmallTypes.ownedTupleIsFree
  refine wpAny_bind (wpAny_field hz rfl (x:=.none) rfl (wpAny_pure ?_))
  simp only [if_true]
  refine wpAny_bind (wpAny_rule (wpAny_bind (wpAny_field hz rfl (x:=.ref TO) rfl (wpAny_bind (wpAny_setField_rec hz (by simp) fun g1 hz1 t1=>?_)))))
  replace hz1:IsZip g1 z TI TO .ellipsis:=hz1
  refine wpAny_bind ?_
  simp only [List.zipIdx_cons,List.zipIdx_nil,List.forIn_cons,List.forIn_nil]
  refine wpAny_bind (wpAny_bind (wpAny_onRaise ?_));show wpAny _ _ (Builtin.SmallTypes.nextOf (.ref i1) >>= _) _ _ _;refine (wpAny_bind (S1.item k x _ _ _ (S1.ext o1 t1.extBut D.b1) e1 fun g2 o12 t2=>wpAny_pure ?_))
  have hO2:IsPair g2 TO p q:=t2.extBut _ _ (Ne.symm n1O) (t1.extBut _ _ D.a2 hO)
  refine wpAny_bind (wpAny_seqItems hO2 rfl (wpAny_bind (wpAny_updateSeq_pair hO2 fun g3 hO3 t3=>?_)))
  replace hO3:IsPair g3 TO x q:=hO3
  refine wpAny_bind (wpAny_letGo (wpAny_pure ?_))
  have o23:ok2 k g3:=S2.ext (S2.ext (S2.ext o2 t1.extBut D.b2) t2.extBut D.c1) t3.extBut D.b4
  refine wpAny_bind (wpAny_bind (wpAny_onRaise ?_));show wpAny _ _ (Builtin.SmallTypes.nextOf (.ref i2) >>= _) _ _ _;refine (wpAny_bind (S2.item k y _ _ _ o23 e2 fun g4 o24 t4=>wpAny_pure ?_))
  have hO4:IsPair g4 TO x q:=t4.extBut _ _ (Ne.symm n2O) hO3
  refine wpAny_bind (wpAny_seqItems hO4 rfl (wpAny_bind (wpAny_updateSeq_pair hO4 fun g5 hO5 t5=>?_)))
  replace hO5:IsPair g5 TO x y:=hO5
  refine wpAny_bind (wpAny_letGo (wpAny_pure (wpAny_pure ?_)))
  refine wpAny_bind (wpAny_seqItems hO5 rfl (wpAny_bind (wpAny_newTuple ?_)))
  have sz:g5.objs.size=s.heap.objs.size:=by rw [t5.1,t4.1,t3.1,t2.1,t1.1]
  have hz5:IsZip g5 z TI TO .ellipsis:=t5.extBut _ _ (Ne.symm D.a2) (t4.extBut _ _ (Ne.symm n2z) (t3.extBut _ _ (Ne.symm D.a2) (t2.extBut _ _ (Ne.symm n1z) hz1)))
  have k5:∀c o,c≠z→c≠TO→c≠i1→c≠i2→s.heap.get? c=some o→g5.get? c=some o:=fun c o m1 m2 m3 m4 e=>t5.extBut _ _ m2 (t4.extBut _ _ m4 (t3.extBut _ _ m2 (t2.extBut _ _ m3 (t1.extBut _ _ m1 e))))
  have o15:ok1 (k+1) g5:=S1.ext (S1.ext (S1.ext o12 t3.extBut D.b3) t4.extBut D.c2) t5.extBut D.b3
  have o25:ok2 (k+1) g5:=S2.ext o24 t5.extBut D.b4
  have zlt:z<g5.objs.size:=Heap.lt_size hz5
  show wpAny _ _ (Builtin.SmallTypes.ownedTupleHandOut (.ref z) (.ref g5.objs.size) >>= _) _ E _;refine wpAny_bind ?_
  unfold Builtin.SmallTypes.ownedTupleHandOut
  have hz6:IsZip (g5.push { cls:=.type "tuple",data:=.seq #[x,y] }) z TI TO .ellipsis:=Heap.get?_push_of_some _ hz5
  refine wpAny_bind (wpAny_setField_rec hz6 (by simp) fun g7 hz7 t7=>?_)
  replace hz7:IsZip g7 z TI TO (rawInt g5.objs.size):=hz7
  refine wpAny_setField_rec hz7 (by simp) fun g8 hz8 t8=>?_
  replace hz8:zgd g8 z TI TO g5.objs.size false:=hz8
  have up:∀c o,c≠z→g5.get? c=some o→g8.get? c=some o:=fun c o m e=>t8.extBut _ _ m (t7.extBut _ _ m (Heap.get?_push_of_some _ e))
  have hT8:IsPair g8 g5.objs.size x y:=t8.extBut _ _ (Nat.ne_of_gt zlt) (t7.extBut _ _ (Nat.ne_of_gt zlt) (Heap.get?_push_size _ rfl))
  have sz8:g8.objs.size=s.heap.objs.size+1:=by rw [t8.1,t7.1,Heap.size_push,sz]
  rw [sz] at hz8 hT8
  refine wpAny_pure ⟨_,rfl,?_⟩
  show Q (.ref g5.objs.size) _
  rw [sz]
  exact hQ g8 hz8 sz8 (up _ _ D.a2 hO5) (S1.keep _ _ _ o15 fun b hb o e=>up b o (fun q=>D.b1 (q ▸ hb)) e) (S2.keep _ _ _ o25 fun b hb o e=>up b o (fun q=>D.b2 (q ▸ hb)) e) hT8 fun c o m1 m2 m3 m4 e=>up c o m1 (k5 c o m1 m2 m3 m4 e)
theorem yeZ {k:Nat} {x y p q:Value} {Q:Value→Shared→Prop} {E:Value→Shared→Prop} (D:ZAp z TI TO d1 d2 i1 i2) (S1:zcx P w A i1 d1 ok1 v1) (S2:zcx P w A i2 d2 ok2 v2)
    (hz:IsZip s.heap z TI TO .none) (hI:IsPair s.heap TI (.ref i1) (.ref i2)) (hO:IsPair s.heap TO p q) (o1:ok1 k s.heap) (o2:ok2 k s.heap) (e1:v1 k=some x) (e2:v2 k=some y)
    (hQ:∀g,IsZip g z TI TO (rawInt s.heap.objs.size)→IsPair g TO x y→ok1 (k+1) g→ok2 (k+1) g→IsPair g s.heap.objs.size x y→(∀c o,c≠z→c≠TO→c≠i1→c≠i2→s.heap.get? c=some o→g.get? c=some o)→Q (.ref s.heap.objs.size) { s with heap:=g }) :
    wpAny (model P w) A (Builtin.«zip.__next__» ⟨[.ref z],[]⟩) (fun fin s'=>∃v,fin = .done (.ret v)∧Q v s') E s :=
  yeq D S1 S2 hz hI hO o1 o2 e1 e2 fun g a _ b c d e=>hQ g a b c d e
theorem yfB {k:Nat} {p q:Value} {Q:Fin→Shared→Prop} {E:Value→Shared→Prop} (D:ZAp z TI TO d1 d2 i1 i2) (S1:zcx P w A i1 d1 ok1 v1) (S2:zcx P w A i2 d2 ok2 v2)
    (hz:IsZip s.heap z TI TO .none) (hI:IsPair s.heap TI (.ref i1) (.ref i2)) (hO:IsPair s.heap TO p q) (o1:ok1 k s.heap) (o2:ok2 k s.heap) (he:v1 k=none∨v2 k=none)
    (hE:∀g e,(∀c o,c≠z→c≠TO→c≠i1→c≠i2→s.heap.get? c=some o→g.get? c=some o)→(∃o,g.get? e=some o∧o.cls = .type "StopIteration")→E (.ref e) { s with heap:=g }) :
    wpAny (model P w) A (Builtin.«zip.__next__» ⟨[.ref z],[]⟩) Q E s:=by
  have n1z:i1≠z:=fun e=>D.b1 (e ▸ S1.mem)
  have n2z:i2≠z:=fun e=>D.b2 (e ▸ S2.mem)
  have n1O:i1≠TO:=fun e=>D.b3 (e ▸ S1.mem)
  show wpAny _ _ (field (.ref z) 2 >>= _) _ E s;refine wpAny_bind (wpAny_field hz rfl (x:=.bool false) rfl ?_)
  show wpAny _ _ (field (.ref z) 3 >>= _) _ E s;refine wpAny_bind (wpAny_field hz rfl (x:=.ref TI) rfl (wpAny_bind (wpAny_seqItems hI rfl ?_)))
  show wpAny _ _ (Builtin.SmallTypes.ownedTupleIsFree (.ref z) >>= _) _ E s;refine wpAny_bind ?_
  unfold Builtin.SmallTypes.ownedTupleIsFree
  refine wpAny_bind (wpAny_field hz rfl (x:=.none) rfl (wpAny_pure ?_))
  simp only [if_true]
  refine wpAny_bind (wpAny_rule (wpAny_bind (wpAny_field hz rfl (x:=.ref TO) rfl (wpAny_bind (wpAny_setField_rec hz (by simp) fun g1 hz1 t1=>?_)))))
  replace hz1:IsZip g1 z TI TO .ellipsis:=hz1
  refine wpAny_bind ?_
  simp only [List.zipIdx_cons,List.zipIdx_nil,List.forIn_cons,List.forIn_nil]
  have o11:ok1 k g1:=S1.ext o1 t1.extBut D.b1
  cases e1:v1 k with
  | none =>
    refine wpAny_bind (wpAny_bind (wpAny_onRaise ?_));show wpAny _ _ (Builtin.SmallTypes.nextOf (.ref i1) >>= _) _ _ _;refine (wpAny_bind (S1.stop k _ _ _ o11 e1 fun g2 e t2 ⟨oe,he',ce⟩=>?_))
    have hz2:IsZip g2 z TI TO .ellipsis:=t2 _ _ (Ne.symm n1z) hz1
    have ez:e≠z:=fun q=>by subst q;rw [hz2] at he';cases he';simp at ce
    exact wpAny_setField_rec hz2 (by simp) fun g3 _ t3=>hE g3 e (fun c o m1 _ m3 _ x=>t3.extBut _ _ m1 (t2 _ _ m3 (t1.extBut _ _ m1 x))) ⟨oe,t3.extBut _ _ ez he',ce⟩
  | some x =>
    have e2:v2 k=none:=by rcases he with h|h;rw [e1] at h;cases h;exact h
    refine wpAny_bind (wpAny_bind (wpAny_onRaise ?_));show wpAny _ _ (Builtin.SmallTypes.nextOf (.ref i1) >>= _) _ _ _;refine (wpAny_bind (S1.item k x _ _ _ o11 e1 fun g2 o12 t2=>wpAny_pure ?_))
    have hO2:IsPair g2 TO p q:=t2.extBut _ _ (Ne.symm n1O) (t1.extBut _ _ D.a2 hO)
    refine wpAny_bind (wpAny_seqItems hO2 rfl (wpAny_bind (wpAny_updateSeq_pair hO2 fun g3 hO3 t3=>?_)))
    refine wpAny_bind (wpAny_letGo (wpAny_pure ?_))
    have o23:ok2 k g3:=S2.ext (S2.ext (S2.ext o2 t1.extBut D.b2) t2.extBut D.c1) t3.extBut D.b4
    refine wpAny_bind (wpAny_bind (wpAny_onRaise ?_));show wpAny _ _ (Builtin.SmallTypes.nextOf (.ref i2) >>= _) _ _ _;refine (wpAny_bind (S2.stop k _ _ _ o23 e2 fun g4 e t4 ⟨oe,he',ce⟩=>?_))
    have hz4:IsZip g4 z TI TO .ellipsis:=t4 _ _ (Ne.symm n2z) (t3.extBut _ _ (Ne.symm D.a2) (t2.extBut _ _ (Ne.symm n1z) hz1))
    have ez:e≠z:=fun q=>by subst q;rw [hz4] at he';cases he';simp at ce
    exact wpAny_setField_rec hz4 (by simp) fun g5 _ t5=>hE g5 e (fun c o m1 m2 m3 m4 x=>t5.extBut _ _ m1 (t4 _ _ m4 (t3.extBut _ _ m2 (t2.extBut _ _ m3 (t1.extBut _ _ m1 x))))) ⟨oe,t5.extBut _ _ ez he',ce⟩
end
end L2
end
section
-- text: ExtC
set_option Elab.async false
set_option linter.all false
set_option maxRecDepth 100000
set_option maxHeartbeats 4000000
namespace L2
open PySem PySem.Spec PyProof.Rows
noncomputable def SqB (K:PySem.W.Frag):Bool→Hp→Addr→List V→Prop
  | true=>fun H a xs=>SqT K H a xs
  | false=>fun H a xs=>SqL K H a xs
noncomputable def yba:Bool→Heap→Addr→Array Value→Prop
  | true=>fun h a xs=>h.IsTuple a xs
  | false=>fun h a xs=>h.IsList a xs
noncomputable def zdf:Bool→Heap→Addr→Addr→Nat→Prop
  | true=>fun h a l k=>h.IsTupleIter a l k
  | false=>fun h a l k=>h.IsListIter a l k
noncomputable def zam (b:Bool) (l:Addr):Obj:={ cls:=.type (if b then "tuple_iterator" else "list_iterator"),data:=.fields #[.ref l,.int 0 0] }
theorem zch (b:Bool) (h:Heap) (l:Addr) (a:Addr) (e:h.get? a=some (zam b l)):zdf b h a l 0:=by cases b <;> exact ⟨_,e,rfl,rfl⟩
theorem zbA {b:Bool} {h h':Heap} {a l:Addr} {k:Nat} (x:zdf b h a l k) (e:∀o,h.get? a=some o→h'.get? a=some o):zdf b h' a l k:=by
  cases b
  · exact Heap.IsListIter.at x e
  · exact ycK x e
theorem ye6 {b:Bool} {h h':Heap} {a:Addr} {xs:Array Value} (x:yba b h a xs) (e:∀o,h.get? a=some o→h'.get? a=some o):yba b h' a xs:=by
  cases b
  · exact Heap.IsList.at x e
  · exact zeF x e
theorem subB {P:Program} {w:World} {A:Around} (b:Bool) {a l:Addr} {xs:Array Value} (hh:A.handled=none) (ne:l≠a):zcx P w A a [a,l] (fun k h=>zdf b h a l k∧yba b h l xs) (fun k=>xs[k]?):=by
  cases b
  · exact zgM hh ne
  · exact ygR hh ne
theorem yaN {b:Bool} {h:Heap} {a l:Addr} {k:Nat} (x:zdf b h a l k):∃o,h.get? a=some o∧(∀v,o.data≠.cell v)∧(o.cls = .type "tuple_iterator"∨o.cls = .type "list_iterator"):=by
  cases b <;> obtain ⟨o,e,c,d⟩:=x
  · exact ⟨o,e,fun v q=>(by rw [d] at q;cases q),.inr c⟩
  · exact ⟨o,e,fun v q=>(by rw [d] at q;cases q),.inl c⟩
theorem ycM {b:Bool} {h:Heap} {a:Addr} {xs:Array Value} (x:yba b h a xs):∃o,h.get? a=some o∧(o.cls = .type "tuple"∨o.cls = .type "list"):=by
  cases b <;> obtain ⟨o,e,c,d⟩:=x
  · exact ⟨o,e,.inr c⟩
  · exact ⟨o,e,.inl c⟩
theorem yce {P:Program} {w:World} {A:Around} {E:Value→Shared→Prop} {s:Shared} {b:Bool} {t:Addr} {items:Array Value} {Q:Value→Shared→Prop} (ht:yba b s.heap t items)
    (hQ:Q (.ref s.heap.objs.size) { s with heap:=s.heap.push (zam b t) }):wpAny (model P w) A (pyIter (.ref t)) Q E s:=by
  cases b
  · exact wpAny_pyIter_list ht hQ
  · exact wpAny_pyIter_tuple ht hQ
section
variable {X:Cx} {pins:List (Addr×Obj)} {σ:St} {H:Hp} {s:Shared}
theorem Inv.seqB {b:Bool} {a:Addr} {xs:List V} (I:Inv X pins σ H s) (h:SqB X.K b H a xs):∃its:List Value,Vals xs its∧yba b s.heap a its.toArray∧xs.length≤sizeLine:=by
  cases b
  · obtain ⟨its,r,p,z⟩:=I.list h;exact ⟨its,r,p.isList,z⟩
  · obtain ⟨its,r,p,z⟩:=I.tuple h;exact ⟨its,r,p,z⟩
theorem Inv.seqB_inj {b:Bool} {a:Addr} {xs ys:List V} (I:Inv X pins σ H s) (h:SqB X.K b H a xs) (h':SqB X.K b H a ys):xs=ys:=by
  cases b
  · exact I.list_inj h h'
  · exact I.tuple_inj h h'
theorem Inv.turnedT {fp:List Addr} {h':Heap} {t':Nat} {T:Addr} {xs:List V} {its:Array Value} (I:Inv X pins σ H s) (hf:∀b∈fp,FpOk X pins H b) (k:∀b o,b∉fp→s.heap.get? b=some o→h'.get? b=some o)
    (hp:s.heap.objs.size≤T) (z:xs.length≤sizeLine) (r:Vals xs its.toList) (new:h'.IsTuple T its):Inv X pins σ (upd H T (.tup xs)) { s with heap:=h',toks:=t' }:=by
  have fT:H T=none:=I.hok.fresh hp
  have nT:∀b o,s.heap.get? b=some o→b≠T:=fun b o e q=>by
    have l1:s.heap.objs.size≥Nat.succ b:=Heap.lt_size e
    have l2:@Eq Nat b T:=q
    lia
  have nfp:∀b u,H b=some u→b∉fp:=fun b u e q=>by rw [(hf b q).1] at e;cases e
  refine I.step (g':=s.gens) (d':=s.drawn) (ch:=fp) (fun b hb=>⟨(hf b hb).2.2.2.1,(hf b hb).2.1,(hf b hb).2.2.2.2.1,(hf b hb).2.2.2.2.2⟩) (fun b o _ _ hc e _=>k b o hc e) (fun b o _ _ hc e _=>⟨o.slots,k b o hc e⟩)
    (fun b o _ e n=>by rw [zad (nT b o e)];exact n) (fun b o hc e=>⟨o,k b o hc e⟩) (fun b ys e=>by rw [zad (zac e fT)];exact e) (fun b o u e=>by rw [zad (zac e fT)];exact e)
    (fun b ps e=>⟨#[],by rw [zad (zac e fT),e];simp⟩) (fun m hm=>?_) (fun b u e=>?_) I.bare
  · obtain ⟨o,es,ep,ho,q⟩:=hm
    exact ⟨o,es,ep,k _ o (fun hb=>(hf _ hb).2.1 rfl) ho,q⟩
  · by_cases hb:b=T
    · subst hb
      rw [zaa] at e;cases e
      have q:IsTup h' b its:=new
      exact ⟨z,its.toList,r,by simpa using q⟩
    · rw [zad hb] at e
      refine (I.hok b u e).stay (fun c v hc q=>k c v ?_ q) (fun c q=>?_) fun c ys q=>?_
      · rcases hc with hc|hc
        · rw [hc];exact nfp b u e
        · exact nfp c _ hc
      · rw [zad (zac q fT)];exact q
      · rw [zad (zac q fT)];exact q
theorem Inv.turnedL {fp:List Addr} {h':Heap} {t':Nat} (I:Inv X pins σ H s) (hf:∀b∈fp,FpOk X pins H b) (k:∀b o,b∉fp→s.heap.get? b=some o→h'.get? b=some o):Inv X pins σ H { s with heap:=h',toks:=t' }:=by
  have nfp:∀b u,H b=some u→b∉fp:=fun b u e q=>by rw [(hf b q).1] at e;cases e
  refine I.step (g':=s.gens) (d':=s.drawn) (ch:=fp) (fun b hb=>⟨(hf b hb).2.2.2.1,(hf b hb).2.1,(hf b hb).2.2.2.2.1,(hf b hb).2.2.2.2.2⟩) (fun b o _ _ hc e _=>k b o hc e) (fun b o _ _ hc e _=>⟨o.slots,k b o hc e⟩)
    (fun b o _ e n=>n) (fun b o hc e=>⟨o,k b o hc e⟩) (fun b ys e=>e) (fun b o u e=>e) (fun b ps e=>⟨#[],by rw [e];simp⟩) (fun m hm=>?_) (fun b u e=>?_) I.bare
  · obtain ⟨o,es,ep,ho,q⟩:=hm
    exact ⟨o,es,ep,k _ o (fun hb=>(hf _ hb).2.1 rfl) ho,q⟩
  · refine (I.hok b u e).stay (fun c v hc q=>k c v ?_ q) (fun c q=>q) fun c ys q=>q
    rcases hc with hc|hc
    · rw [hc];exact nfp b u e
    · exact nfp c _ hc
end
noncomputable def Itz (K:PySem.W.Frag) (b1 b2:Bool) (l1 l2:Addr):It :=
  ⟨fun i H=>∃xs ys x y,SqB K b1 H l1 xs∧SqB K b2 H l2 ys∧xs[i]?=some x∧ys[i]?=some y,
   fun i H v H'=>∃T x y,v = .ref T∧H T=none∧H'=upd H T (.tup [x,y])∧(∀xs,SqB K b1 H l1 xs→xs[i]?=some x)∧(∀ys,SqB K b2 H l2 ys→ys[i]?=some y),
   fun i H=>∃xs ys,SqB K b1 H l1 xs∧SqB K b2 H l2 ys∧(xs.length≤i∨ys.length≤i)⟩
structure ZSt (b1 b2:Bool) (z TI TO i1 i2 l1 l2:Addr) (k:Nat) (h:Heap):Prop where
  zip:IsZip h z TI TO .none
  ti:IsPair h TI (.ref i1) (.ref i2)
  to:∃a b,IsPair h TO a b
  it1:zdf b1 h i1 l1 k
  it2:zdf b2 h i2 l2 k
theorem zaO {h:Heap} {a b:Addr} {o u:Obj} {x y:String} (e:h.get? a=some o) (e':h.get? b=some u) (ca:o.cls = .type x) (cb:u.cls = .type y) (n:x≠y:=by decide):a≠b:=fun q=>by
  subst q;rw [e] at e';cases e';rw [ca] at cb;injection cb with cb;exact n cb
theorem Inv.sq_ne {X:Cx} {pins:List (Addr×Obj)} {σ:St} {H:Hp} {s:Shared} {b:Bool} {l c:Addr} {xs:List V} (I:Inv X pins σ H s) (h:SqB X.K b H l xs) (f:FpOk X pins H c):l≠c:=by
  have key:(∃u,H l=some u)∨∃o,X.K.lookup l=some o:=by
    cases b
    · rcases h with (h | ⟨o,h⟩) | ⟨o,_,_,h,_⟩
      · exact .inl ⟨_,h⟩
      · exact .inl ⟨_,h⟩
      · exact .inr ⟨o,h⟩
    · rcases h with (h | ⟨o,h⟩) | ⟨o,_,_,h,_⟩
      · exact .inl ⟨_,h⟩
      · exact .inl ⟨_,h⟩
      · exact .inr ⟨o,h⟩
  intro q
  subst q
  rcases key with ⟨u,e⟩ | ⟨o,e⟩
  · rw [f.1] at e;cases e
  · have eb:=I.ok.mod.kin l o e
    rcases f.2.2.2.1 with z|z
    · exact I.ok.noex l o eb z
    · have l1:X.base.objs.size≥Nat.succ l:=Heap.lt_size eb
      have l2:X.base.objs.size≤X.s₀.heap.objs.size:=I.ok.bsz
      have l3:X.s₀.heap.objs.size≤l:=z
      lia
theorem zfR {P:Program} {w:World} {K:PySem.W.Frag} {elts:List Expr} {kk:Nat} {tpos:Pos} (b1 b2:Bool) (z TI TO i1 i2 l1 l2:Addr) (nIO:TI≠TO) (n12:i1≠i2) :
    Turn P w K (.Tuple elts kk tpos) (Itz K b1 b2 l1 l2) [z,TI,TO,i1,i2] z (ZSt b1 b2 z TI TO i1 i2 l1 l2) where
  mem:=List.mem_cons_self
  obj:=fun k h S b hb=>by
    obtain ⟨p,q,hO⟩:=S.to
    obtain ⟨o1,e1,d1,_⟩:=yaN S.it1
    obtain ⟨o2,e2,d2,_⟩:=yaN S.it2
    simp only [List.mem_cons,List.not_mem_nil,or_false] at hb
    rcases hb with rfl|rfl|rfl|rfl|rfl
    · exact ⟨_,S.zip,fun v q=>by cases q⟩
    · exact ⟨_,S.ti,fun v q=>by cases q⟩
    · exact ⟨_,hO,fun v q=>by cases q⟩
    · exact ⟨o1,e1,d1⟩
    · exact ⟨o2,e2,d2⟩
  keep:=fun k h h' S q=>by
    obtain ⟨p,r,hO⟩:=S.to
    exact ⟨q z (by simp) _ S.zip,q TI (by simp) _ S.ti,⟨p,r,q TO (by simp) _ hO⟩,zbA S.it1 fun o e=>q i1 (by simp) o e,zbA S.it2 fun o e=>q i2 (by simp) o e⟩
  item:=by
    intro X hP hw hK hc i pins s σ H E I hf S hg
    subst hP hw hK
    obtain ⟨xs,ys,x,y,h1,h2,ex,ey⟩:=hg
    obtain ⟨us,r1,p1,z1⟩:=I.seqB h1
    obtain ⟨vs,r2,p2,z2⟩:=I.seqB h2
    obtain ⟨u,eu,ru⟩:=r1.get ex
    obtain ⟨v,ev,rv⟩:=r2.get ey
    obtain ⟨p,q,hO⟩:=S.to
    obtain ⟨o1,e1,_,c1⟩:=yaN S.it1
    obtain ⟨o2,e2,_,c2⟩:=yaN S.it2
    obtain ⟨q1,f1,g1⟩:=ycM p1
    obtain ⟨q2,f2,g2⟩:=ycM p2
    have fz:∀b∈[z,TI,TO,i1,i2],H b=none:=fun b hb=>(hf b hb).1
    have hh:X.A.handled=none:=I.ok.hd hc
    have nl1:∀b∈[z,TI,TO,i1,i2],l1≠b:=fun b hb=>I.sq_ne h1 (hf b hb)
    have nl2:∀b∈[z,TI,TO,i1,i2],l2≠b:=fun b hb=>I.sq_ne h2 (hf b hb)
    have i1z:i1≠z:=by rcases c1 with c|c <;> exact zaO e1 S.zip c rfl
    have i2z:i2≠z:=by rcases c2 with c|c <;> exact zaO e2 S.zip c rfl
    have i1I:i1≠TI:=by rcases c1 with c|c <;> exact zaO e1 S.ti c rfl
    have i2I:i2≠TI:=by rcases c2 with c|c <;> exact zaO e2 S.ti c rfl
    have i1O:i1≠TO:=by rcases c1 with c|c <;> exact zaO e1 hO c rfl
    have i2O:i2≠TO:=by rcases c2 with c|c <;> exact zaO e2 hO c rfl
    have Iz:TI≠z:=zaO S.ti S.zip rfl rfl
    have Oz:TO≠z:=zaO hO S.zip rfl rfl
    have D:ZAp z TI TO [i1,l1] [i2,l2] i1 i2:=by
      refine ⟨Iz,Oz,nIO,?_,?_,?_,?_,Ne.symm i1I,Ne.symm i2I,?_,?_⟩
      · simp only [List.mem_cons,List.not_mem_nil,or_false,not_or];exact ⟨Ne.symm i1z,Ne.symm (nl1 z (by simp))⟩
      · simp only [List.mem_cons,List.not_mem_nil,or_false,not_or];exact ⟨Ne.symm i2z,Ne.symm (nl2 z (by simp))⟩
      · simp only [List.mem_cons,List.not_mem_nil,or_false,not_or];exact ⟨Ne.symm i1O,Ne.symm (nl1 TO (by simp))⟩
      · simp only [List.mem_cons,List.not_mem_nil,or_false,not_or];exact ⟨Ne.symm i2O,Ne.symm (nl2 TO (by simp))⟩
      · simp only [List.mem_cons,List.not_mem_nil,or_false,not_or];exact ⟨n12,Ne.symm (nl2 i1 (by simp))⟩
      · simp only [List.mem_cons,List.not_mem_nil,or_false,not_or];exact ⟨Ne.symm n12,Ne.symm (nl1 i2 (by simp))⟩
    have hT:s.TypeIs (.ref z) "zip":=⟨_,S.zip,rfl⟩
    unfold pyNext
    refine wpAny_bind (wpAny_attempt (wpAny_callSpecial?_slot (name:=Str.ofString "__next__") hT F.slot_zip_next (wpAny_call_entry F.slot_zip_next hT F.entry_zip_next
      (yeZ D (subB b1 (A:=X.A.in1) hh (nl1 i1 (by simp))) (subB b2 (A:=X.A.in1) hh (nl2 i2 (by simp))) S.zip S.ti hO ⟨S.it1,p1⟩ ⟨S.it2,p2⟩ (x:=u) (y:=v) (by simpa using eu) (by simpa using ev)
        fun g a1 a2 a3 a4 a5 a6=>wpAny_pure ?_) (F.args_zip_next_1 _))))
    refine ⟨_,rfl,wpAny_letOwnedTupleGo_zip (s:={ s with heap:=g }) a1 fun g' hz' t=>?_⟩
    have lt:∀ {c:Addr} {o:Obj},s.heap.get? c=some o→s.heap.objs.size≠c:=fun e=>Nat.ne_of_gt (Heap.lt_size e)
    have k':∀b o,b∉[z,TI,TO,i1,i2]→s.heap.get? b=some o→g'.get? b=some o:=fun b o hb e=>by
      simp only [List.mem_cons,List.not_mem_nil,or_false,not_or] at hb
      exact t.extBut b o hb.1 (a6 b o hb.1 hb.2.2.1 hb.2.2.2.1 hb.2.2.2.2 e)
    have hTI':IsPair g' TI (.ref i1) (.ref i2):=t.extBut _ _ Iz (a6 _ _ Iz nIO (Ne.symm i1I) (Ne.symm i2I) S.ti)
    have hS':ZSt b1 b2 z TI TO i1 i2 l1 l2 (i+1) g':=⟨hz',hTI',⟨_,_,t.extBut _ _ Oz a2⟩,zbA a3.1 fun o e=>t.extBut _ _ i1z e,zbA a4.1 fun o e=>t.extBut _ _ i2z e⟩
    have fT:H s.heap.objs.size=none:=I.hok.fresh (Nat.le_refl _)
    have J:Inv X pins σ (upd H s.heap.objs.size (.tup [x,y])) { s with heap:=g' }:=I.turnedT (t':=s.toks) (fp:=[z,TI,TO,i1,i2]) hf k' (Nat.le_refl _) (by show 2≤sizeLine;decide) (its:=#[u,v]) (.cons ru (.cons rv .nil)) ⟨_,t.extBut _ _ (lt S.zip) a5,rfl,_,rfl⟩
    refine ⟨.ref s.heap.objs.size,upd H s.heap.objs.size (.tup [x,y]),J,rfl,
      ⟨_,x,y,rfl,fT,rfl,fun xs' hx'=>by rw [I.seqB_inj hx' h1];exact ex,fun ys' hy'=>by rw [I.seqB_inj hy' h2];exact ey⟩,hS',fun b hb=>?_⟩
    have fobj:∃o,s.heap.get? b=some o:=by
      simp only [List.mem_cons,List.not_mem_nil,or_false] at hb
      rcases hb with rfl|rfl|rfl|rfl|rfl
      · exact ⟨_,S.zip⟩
      · exact ⟨_,S.ti⟩
      · exact ⟨_,hO⟩
      · exact ⟨_,e1⟩
      · exact ⟨_,e2⟩
    obtain ⟨o,eo⟩:=fobj
    rw [zad (Ne.symm (lt eo))]
    exact fz b hb
  done:=by
    intro X hP hw hK hc i pins s σ H E I hf S hg
    subst hP hw hK
    obtain ⟨xs,ys,h1,h2,le⟩:=hg
    obtain ⟨us,r1,p1,z1⟩:=I.seqB h1
    obtain ⟨vs,r2,p2,z2⟩:=I.seqB h2
    obtain ⟨p,q,hO⟩:=S.to
    obtain ⟨o1,e1,_,c1⟩:=yaN S.it1
    obtain ⟨o2,e2,_,c2⟩:=yaN S.it2
    have hh:X.A.handled=none:=I.ok.hd hc
    have nl1:∀b∈[z,TI,TO,i1,i2],l1≠b:=fun b hb=>I.sq_ne h1 (hf b hb)
    have nl2:∀b∈[z,TI,TO,i1,i2],l2≠b:=fun b hb=>I.sq_ne h2 (hf b hb)
    have i1z:i1≠z:=by rcases c1 with c|c <;> exact zaO e1 S.zip c rfl
    have i2z:i2≠z:=by rcases c2 with c|c <;> exact zaO e2 S.zip c rfl
    have i1I:i1≠TI:=by rcases c1 with c|c <;> exact zaO e1 S.ti c rfl
    have i2I:i2≠TI:=by rcases c2 with c|c <;> exact zaO e2 S.ti c rfl
    have i1O:i1≠TO:=by rcases c1 with c|c <;> exact zaO e1 hO c rfl
    have i2O:i2≠TO:=by rcases c2 with c|c <;> exact zaO e2 hO c rfl
    have Iz:TI≠z:=zaO S.ti S.zip rfl rfl
    have Oz:TO≠z:=zaO hO S.zip rfl rfl
    have D:ZAp z TI TO [i1,l1] [i2,l2] i1 i2:=by
      refine ⟨Iz,Oz,nIO,?_,?_,?_,?_,Ne.symm i1I,Ne.symm i2I,?_,?_⟩
      · simp only [List.mem_cons,List.not_mem_nil,or_false,not_or];exact ⟨Ne.symm i1z,Ne.symm (nl1 z (by simp))⟩
      · simp only [List.mem_cons,List.not_mem_nil,or_false,not_or];exact ⟨Ne.symm i2z,Ne.symm (nl2 z (by simp))⟩
      · simp only [List.mem_cons,List.not_mem_nil,or_false,not_or];exact ⟨Ne.symm i1O,Ne.symm (nl1 TO (by simp))⟩
      · simp only [List.mem_cons,List.not_mem_nil,or_false,not_or];exact ⟨Ne.symm i2O,Ne.symm (nl2 TO (by simp))⟩
      · simp only [List.mem_cons,List.not_mem_nil,or_false,not_or];exact ⟨n12,Ne.symm (nl2 i1 (by simp))⟩
      · simp only [List.mem_cons,List.not_mem_nil,or_false,not_or];exact ⟨Ne.symm n12,Ne.symm (nl1 i2 (by simp))⟩
    have he:us.toArray[i]?=none∨vs.toArray[i]?=none:=by
      have l1:=r1.length
      have l2:=r2.length
      rcases le with l|l
      · exact .inl (by simp;lia)
      · exact .inr (by simp;lia)
    have hT:s.TypeIs (.ref z) "zip":=⟨_,S.zip,rfl⟩
    unfold pyNext
    refine wpAny_bind (wpAny_attempt (wpAny_callSpecial?_slot (name:=Str.ofString "__next__") hT F.slot_zip_next (wpAny_call_entry F.slot_zip_next hT F.entry_zip_next
      (yfB D (subB b1 (A:=X.A.in1) hh (nl1 i1 (by simp))) (subB b2 (A:=X.A.in1) hh (nl2 i2 (by simp))) S.zip S.ti hO ⟨S.it1,p1⟩ ⟨S.it2,p2⟩ he fun g e kg ⟨oe,ho,hce⟩=>?_) (F.args_zip_next_1 _))))
    refine wpAny_bind (wpAny_isInstance (T:="StopIteration") (b:=true) ⟨oe,ho,hce⟩ isSubtype_stop (wpAny_pure ⟨rfl,?_⟩))
    refine I.turnedL (t':=s.toks) (fp:=[z,TI,TO,i1,i2]) hf fun b o hb e=>?_
    simp only [List.mem_cons,List.not_mem_nil,or_false,not_or] at hb
    exact kg b o hb.1 hb.2.2.1 hb.2.2.2.1 hb.2.2.2.2 e
  self:=fun A i s Q E S h=>wpAny_pyIter_zip S.zip h
noncomputable def zeY (h:Heap) (o1 o2:Obj):Heap:=(((h.push o1).push o2).push { cls:=.type "tuple",data:=.seq #[.ref h.objs.size,.ref (h.push o1).objs.size] }).push { cls:=.type "tuple",data:=.seq #[.none,.none] }
noncomputable def ycB (h:Heap) (o1 o2:Obj):Heap:=(zeY h o1 o2).push { cls:=.type "zip",data:=.fields #[.none,.bool false,.bool false,.ref ((h.push o1).push o2).objs.size,.ref (((h.push o1).push o2).push { cls:=.type "tuple",data:=.seq #[.ref h.objs.size,.ref (h.push o1).objs.size] }).objs.size] }
theorem zep (b1 b2:Bool) (l1 l2:Addr) (xs ys:Array Value) :
    Meets (Builtin.«zip.__new__» ⟨[.type "zip",.ref l1,.ref l2],[]⟩) (fun _ R s=>yba b1 s.heap l1 xs∧yba b2 s.heap l2 ys∧R (.ok (.ret (.ref (zeY s.heap (zam b1 l1) (zam b2 l2)).objs.size))) { s with heap:=ycB s.heap (zam b1 l1) (zam b2 l2) }) :=
  .of_wp fun prog w A R s h=>by
    obtain ⟨hp,g,d,tk,os⟩:=s;obtain ⟨hl1,hl2,h⟩:=h
    have hsub:=sub_zip
    have hL1:yba b1 (Shared.heap ⟨hp,g,d,tk,os⟩) l1 xs:=hl1
    have hL2:yba b2 (Shared.heap ⟨hp.push (zam b1 l1),g,d,tk,os⟩) l2 ys:=ye6 hl2 fun o e=>Heap.get?_push_of_some _ e
    wp_walk using yce hL1,yce hL2
    exact ⟨_,rfl,h⟩
end L2
end
section
-- text: ExtD
set_option Elab.async false
set_option linter.all false
set_option maxRecDepth 100000
set_option maxHeartbeats 4000000
namespace L2
open PySem PySem.Spec PyProof.Rows
section
variable {X:Cx}
noncomputable def iZip (K:PySem.W.Frag) (ta:TA):TI:=fun σ H R=>ta σ H fun vs H1=>∃b1 b2 a1 a2,vs=[.ref a1,.ref a2]∧(∃xs,SqB K b1 H1 a1 xs)∧(∃ys,SqB K b2 H1 a2 ys)∧R (Itz K b1 b2 a1 a2) H1
theorem zgZ {pins:List (Addr×Obj)} {σ:St} {H:Hp} {s:Shared} {R:It→Hp→Prop} {elts:List Expr} {kk:Nat} {tpos:Pos} {b1 b2:Bool} {l1 l2:Addr} {xs ys:List V} (I:Inv X pins σ H s) (h1:SqB X.K b1 H l1 xs) (h2:SqB X.K b2 H l2 ys) (q:R (Itz X.K b1 b2 l1 l2) H) :
    wpAny (model X.prog X.w) X.A (call (.type "zip") [.ref l1,.ref l2]) (fun v s1=>wpAny (model X.prog X.w) X.A (pyIter v) (PIE X pins σ (.Tuple elts kk tpos) R) X.xe s1) X.xe s:=by
  obtain ⟨us,r1,p1,z1⟩:=I.seqB h1
  obtain ⟨vs,r2,p2,z2⟩:=I.seqB h2
  refine callType_new F.called_zip (by decide) (F.typeCall_zip_2 _ _) (F.newCall_zip_2 _ _) (fun obj=>F.args_object_init_3 obj _ _) F.entry_zip_new (zep b1 b2 l1 l2 us.toArray vs.toArray) ⟨p1,p2,?_⟩
  generalize hn:s.heap.objs.size=n
  have s1:(s.heap.push (zam b1 l1)).objs.size=n+1:=by rw [Heap.size_push,hn]
  have s2:((s.heap.push (zam b1 l1)).push (zam b2 l2)).objs.size=n+2:=by rw [Heap.size_push,s1]
  have s3:(((s.heap.push (zam b1 l1)).push (zam b2 l2)).push { cls:=.type "tuple",data:=.seq #[.ref s.heap.objs.size,.ref (s.heap.push (zam b1 l1)).objs.size] }).objs.size=n+3:=by rw [Heap.size_push,s2]
  have s4:(zeY s.heap (zam b1 l1) (zam b2 l2)).objs.size=n+4:=by unfold zeY;rw [Heap.size_push,s3]
  have old:∀b o,s.heap.get? b=some o→(ycB s.heap (zam b1 l1) (zam b2 l2)).get? b=some o:=fun b o e=>Heap.get?_push_of_some _ (Heap.get?_push_of_some _ (Heap.get?_push_of_some _ (Heap.get?_push_of_some _ (Heap.get?_push_of_some _ e))))
  have gz:(ycB s.heap (zam b1 l1) (zam b2 l2)).get? (n+4)=some { cls:=.type "zip",data:=.fields #[.none,.bool false,.bool false,.ref (n+2),.ref (n+3)] }:=by
    have e:(ycB s.heap (zam b1 l1) (zam b2 l2)).get? (zeY s.heap (zam b1 l1) (zam b2 l2)).objs.size=some _:=Heap.get?_push_size _ rfl
    rw [s4] at e
    rw [e,s2,s3]
  have gO:(ycB s.heap (zam b1 l1) (zam b2 l2)).get? (n+3)=some { cls:=.type "tuple",data:=.seq #[.none,.none] }:=by
    have e:=Heap.get?_push_size (h:=((s.heap.push (zam b1 l1)).push (zam b2 l2)).push { cls:=.type "tuple",data:=.seq #[.ref s.heap.objs.size,.ref (s.heap.push (zam b1 l1)).objs.size] }) (o:={ cls:=.type "tuple",data:=.seq #[.none,.none] }) rfl
    rw [s3] at e
    exact Heap.get?_push_of_some _ e
  have gI:(ycB s.heap (zam b1 l1) (zam b2 l2)).get? (n+2)=some { cls:=.type "tuple",data:=.seq #[.ref n,.ref (n+1)] }:=by
    have e:(ycB s.heap (zam b1 l1) (zam b2 l2)).get? ((s.heap.push (zam b1 l1)).push (zam b2 l2)).objs.size=some { cls:=.type "tuple",data:=.seq #[.ref s.heap.objs.size,.ref (s.heap.push (zam b1 l1)).objs.size] }:=Heap.get?_push_of_some _ (Heap.get?_push_of_some _ (Heap.get?_push_size _ rfl))
    rw [s2] at e
    rw [e,s1,hn]
  have g2:(ycB s.heap (zam b1 l1) (zam b2 l2)).get? (n+1)=some (zam b2 l2):=by
    have e:=Heap.get?_push_size (h:=s.heap.push (zam b1 l1)) (o:=zam b2 l2) rfl
    rw [s1] at e
    exact Heap.get?_push_of_some _ (Heap.get?_push_of_some _ (Heap.get?_push_of_some _ e))
  have g1:(ycB s.heap (zam b1 l1) (zam b2 l2)).get? n=some (zam b1 l1):=by
    have e:=Heap.get?_push_size (h:=s.heap) (o:=zam b1 l1) rfl
    rw [hn] at e
    exact Heap.get?_push_of_some _ (Heap.get?_push_of_some _ (Heap.get?_push_of_some _ (Heap.get?_push_of_some _ e)))
  rw [s4]
  refine ⟨⟨_,gz,rfl⟩,wpAny_pyIter_zip gz ?_⟩
  have I1:Inv X pins σ H { s with heap:=ycB s.heap (zam b1 l1) (zam b2 l2) }:=I.kept (t':=s.toks) old
  refine ⟨n+4,[n+4,n+2,n+3,n,n+1],_,_,H,rfl,I1,zfR b1 b2 (n+4) (n+2) (n+3) n (n+1) l1 l2 (show @Ne Nat _ _ by lia) (show @Ne Nat _ _ by lia),⟨gz,gI,⟨_,_,gO⟩,zch _ _ _ _ g1,zch _ _ _ _ g2⟩,fun b hb=>?_,q⟩
  have le:s.heap.objs.size≤b:=by
    rw [hn]
    simp only [List.mem_cons,List.not_mem_nil,or_false] at hb
    show @LE.le Nat _ n b
    rcases hb with e|e|e|e|e <;> (have e':@Eq Nat b _:=e;lia)
  exact I.fpOk le (I.hok.fresh le)
theorem zdn {a b:Expr} {ta:TA} {p pos:Pos} {elts:List Expr} {kk:Nat} {tpos:Pos} (hg:Gl X "zip") (hm:X.mg "zip"=none) (ha:PA X [a,b] ta) (hs:starEach [a,b] X.env=[(false,eval a X.env),(false,eval b X.env)]:=by rfl) (hs2:starEach [b] X.env=[(false,eval b X.env)]:=by rfl) :
    PI X (.Tuple elts kk tpos) (.Call (.Name "zip" p) [a,b] [] pos) (iZip X.K ta):=by
  intro pins s σ H R I h
  refine Call_ (zbG I hg hm (u:=.type "zip") boot_zip (PyProof.Rows.callWith_type1 (thn (ha pos pins s σ H _ I h) fun us s1 ⟨vs,H1,I1,r1,q1⟩=>?_) (by rw [hs,hs2]) (by rw [hs2];rfl)))
  obtain ⟨b1,b2,a1,a2,e,⟨xs,h1⟩,⟨ys,h2⟩,q⟩:=q1
  subst e
  cases r1 with
  | cons r rr =>
    cases rr with
    | cons r' rr =>
      cases rr
      cases r
      cases r'
      exact zgZ I1 h1 h2 q
end
end L2
end
section
-- text: ExtE
set_option Elab.async false
set_option linter.all false
set_option maxRecDepth 100000
set_option maxHeartbeats 4000000
namespace L2
open PySem PySem.Spec PyProof.Rows
noncomputable def Ite (K:PySem.W.Frag) (b:Bool) (l:Addr):It :=
  ⟨fun i H=>∃xs x,SqB K b H l xs∧xs[i]?=some x,
   fun i H v H'=>∃T x,v = .ref T∧H T=none∧H'=upd H T (.tup [.int i,x])∧(∀xs,SqB K b H l xs→xs[i]?=some x),
   fun i H=>∃xs,SqB K b H l xs∧xs.length≤i⟩
theorem ygS {P:Program} {w:World} {A:Around} (b:Bool) {a l:Addr} {xs:Array Value} (hh:A.handled=none) (ne:l≠a):Draws P w A a [a,l] xs.size (fun i v=>xs[i]?=some v) (fun k h=>zdf b h a l k∧yba b h l xs) where
  live:=fun k h z=>let ⟨o,e,_⟩:=(subB (P:=P) (w:=w) b hh ne).obj k h z;⟨o,e⟩
  frame:=fun k h h' z q=>(subB (P:=P) (w:=w) b hh ne).keep k h h' z q
  item:=fun k s Q E hk z q=>by
    have hx:xs[k]?=some xs[k]:=Array.getElem?_eq_getElem hk
    exact (subB (P:=P) (w:=w) b hh ne).item k xs[k] s Q E z hx fun h' a1 a2=>q xs[k] h' s.toks hx a1 a2
  done:=fun s Q E z q=>(subB (P:=P) (w:=w) b hh ne).stop xs.size s Q E z (Array.getElem?_eq_none (Nat.le_refl _)) q
structure ESt (b:Bool) (e it l:Addr) (k:Nat) (h:Heap):Prop where
  en:∃old,IsEnum h e it k old
  it:zdf b h it l k
theorem ze7 {P:Program} {w:World} {K:PySem.W.Frag} {elts:List Expr} {kk:Nat} {tpos:Pos} (b:Bool) (e it l:Addr) :
    Turn P w K (.Tuple elts kk tpos) (Ite K b l) [e,it] e (ESt b e it l) where
  mem:=List.mem_cons_self
  obj:=fun k h S c hc=>by
    obtain ⟨old,he⟩:=S.en
    obtain ⟨o1,e1,d1,_⟩:=yaN S.it
    simp only [List.mem_cons,List.not_mem_nil,or_false] at hc
    rcases hc with rfl|rfl
    · exact ⟨_,he,fun v q=>by cases q⟩
    · exact ⟨o1,e1,d1⟩
  keep:=fun k h h' S q=>by
    obtain ⟨old,he⟩:=S.en
    exact ⟨⟨old,q e (by simp) _ he⟩,zbA S.it fun o x=>q it (by simp) o x⟩
  item:=by
    intro X hP hw hK hc i pins s σ H E I hf S hg
    subst hP hw hK
    obtain ⟨xs,x,h1,ex⟩:=hg
    obtain ⟨us,r1,p1,z1⟩:=I.seqB h1
    obtain ⟨u,eu,ru⟩:=r1.get ex
    obtain ⟨old,he⟩:=S.en
    obtain ⟨o1,e1,_,c1⟩:=yaN S.it
    have hh:X.A.handled=none:=I.ok.hd hc
    have nl:∀c∈[e,it],l≠c:=fun c hc=>I.sq_ne h1 (hf c hc)
    have ei:e≠it:=by rcases c1 with c|c <;> exact zaO he e1 rfl c
    have ilt:i<us.toArray.size:=by
      have:=(List.getElem?_eq_some_iff.mp eu).1
      simpa using this
    refine wpAny_pyNext_enum_itemD (ygS b (A:=X.A.in1) hh (nl it (by simp))) he ⟨S.it,p1⟩ ilt ei (by simp only [List.mem_cons,List.not_mem_nil,or_false,not_or];exact ⟨ei,Ne.symm (nl e (by simp))⟩) fun y g tk hy a1 a2 a3 a4 a5=>?_
    have ey:y=u:=by
      have q1:us[i]?=some y:=by simpa using hy
      rw [eu] at q1;cases q1;rfl
    subst ey
    refine ⟨_,rfl,wpAny_letOwnedTupleGo_enum (s:={ s with heap:=g,toks:=tk+1 }) a1 fun g' he' t=>?_⟩
    have lt:∀ {c:Addr} {o:Obj},s.heap.get? c=some o→s.heap.objs.size≠c:=fun q=>Nat.ne_of_gt (Heap.lt_size q)
    have k':∀c o,c∉[e,it]→s.heap.get? c=some o→g'.get? c=some o:=fun c o hc q=>by
      simp only [List.mem_cons,List.not_mem_nil,or_false,not_or] at hc
      exact t.extBut c o hc.1 (a5 c o hc.1 hc.2 q)
    have hS':ESt b e it l (i+1) g':=⟨⟨_,by simpa using he'⟩,zbA a2.1 fun o q=>t.extBut _ _ (Ne.symm ei) q⟩
    have fT:H s.heap.objs.size=none:=I.hok.fresh (Nat.le_refl _)
    have J:Inv X pins σ (upd H s.heap.objs.size (.tup [.int i,x])) { s with heap:=g',toks:=tk+1 } :=
      I.turnedT (t':=tk+1) (fp:=[e,it]) hf k' (Nat.le_refl _) (by show 2≤sizeLine;decide) (its:=#[.int i tk,y]) (.cons ⟨_,rfl⟩ (.cons ru .nil)) ⟨_,t.extBut _ _ (lt he) a3,rfl,_,rfl⟩
    refine ⟨.ref s.heap.objs.size,upd H s.heap.objs.size (.tup [.int i,x]),J,rfl,⟨_,x,rfl,fT,rfl,fun xs' hx'=>by rw [I.seqB_inj hx' h1];exact ex⟩,hS',fun c hc=>?_⟩
    have fobj:∃o,s.heap.get? c=some o:=by
      simp only [List.mem_cons,List.not_mem_nil,or_false] at hc
      rcases hc with rfl|rfl
      · exact ⟨_,he⟩
      · exact ⟨_,e1⟩
    obtain ⟨o,eo⟩:=fobj
    rw [zad (Ne.symm (lt eo))]
    exact (hf c hc).1
  done:=by
    intro X hP hw hK hc i pins s σ H E I hf S hg
    subst hP hw hK
    obtain ⟨xs,h1,le⟩:=hg
    obtain ⟨us,r1,p1,z1⟩:=I.seqB h1
    obtain ⟨old,he⟩:=S.en
    have hh:X.A.handled=none:=I.ok.hd hc
    have nl:∀c∈[e,it],l≠c:=fun c hc=>I.sq_ne h1 (hf c hc)
    have D:=subB (P:=X.prog) (w:=X.w) b (A:=X.A.in1) (xs:=us.toArray) hh (nl it (by simp))
    have hT:s.TypeIs (.ref e) "enumerate":=⟨_,he,rfl⟩
    unfold pyNext
    refine wpAny_bind (wpAny_attempt (wpAny_callSpecial?_slot (name:=Str.ofString "__next__") hT F.slot_enumerate_next (wpAny_call_entry F.slot_enumerate_next hT F.entry_enumerate_next ?_ (F.args_enumerate_next_1 _))))
    show wpAny _ _ (field (.ref e) 2 >>= _) _ _ s;refine wpAny_bind (wpAny_field he rfl (x:=.ref it) rfl ?_)
    refine wpAny_bind (D.stop i _ _ _ ⟨S.it,p1⟩ (by have:=r1.length;simp;lia) fun g x t ⟨o,ho,hce⟩=>?_)
    refine wpAny_bind (wpAny_isInstance (T:="StopIteration") (b:=true) ⟨o,ho,hce⟩ isSubtype_stop (wpAny_pure ⟨rfl,?_⟩))
    refine I.turnedL (t':=s.toks) (fp:=[e,it]) hf fun c o hc q=>?_
    simp only [List.mem_cons,List.not_mem_nil,or_false,not_or] at hc
    exact t c o hc.2 q
  self:=fun A i s Q E S h=>let ⟨_,he⟩:=S.en;wpAny_pyIter_enum he h
theorem ydU (b:Bool) (l:Addr) (xs:Array Value) (n:Nat) (dct:Option Addr) (sl:Array (Option Value)) :
    Meets (Builtin.«enumerate.__new__» ⟨[.type "enumerate",.ref l],[]⟩) (fun _ R s=>s.heap.get? l=some { cls:=.type (if b then "tuple" else "list"),dict:=dct,data:=.seq xs n,slots:=sl }∧R (.ok (.ret (.ref (s.heap.push (zam b l)).objs.size))) { s with heap:=(s.heap.push (zam b l)).push { cls:=.type "enumerate",data:=.fields #[.none,.bool false,.ref s.heap.objs.size,rawInt 0,.none,.none] } }) :=
  .of_wp fun prog w A R s h=>by
    obtain ⟨hp,g,d,tk,os⟩:=s;obtain ⟨hl,h⟩:=h
    have hsub:=sub_enumerate
    have hL:yba b (Shared.heap ⟨hp,g,d,tk,os⟩) l xs:=by cases b <;> exact ⟨_,hl,rfl,n,rfl⟩
    wp_walk using wpAny_loadPart' hl;(refine wpAny_stack_any fun st=>wpAny_pure ?_);split
    · rename_i c _ _ _ _ _;cases (c==Value.type "enumerate") <;> (wp_walk using wpAny_loadPart' hl,yce hL;exact ⟨_,rfl,h⟩)
    · wp_walk using wpAny_loadPart' hl,yce hL;exact ⟨_,rfl,h⟩
theorem ydS {b:Bool} {h:Heap} {l:Addr} {xs:Array Value} (x:yba b h l xs):∃n dct sl,h.get? l=some { cls:=.type (if b then "tuple" else "list"),dict:=dct,data:=.seq xs n,slots:=sl }:=by
  cases b <;> obtain ⟨⟨c,dct,dt,sl⟩,e,hc,n,hd⟩:=x
  · replace hc:c = .type "list":=hc
    replace hd:dt = .seq xs n:=hd
    subst hc hd;exact ⟨n,dct,sl,e⟩
  · replace hc:c = .type "tuple":=hc
    replace hd:dt = .seq xs n:=hd
    subst hc hd;exact ⟨n,dct,sl,e⟩
section
variable {X:Cx}
noncomputable def zhw (K:PySem.W.Frag) (ta:TA):TI:=fun σ H R=>ta σ H fun vs H1=>∃b a,vs=[.ref a]∧(∃xs,SqB K b H1 a xs)∧R (Ite K b a) H1
theorem zgF {pins:List (Addr×Obj)} {σ:St} {H:Hp} {s:Shared} {R:It→Hp→Prop} {elts:List Expr} {kk:Nat} {tpos:Pos} {b:Bool} {l:Addr} {xs:List V} (I:Inv X pins σ H s) (h1:SqB X.K b H l xs) (q:R (Ite X.K b l) H) :
    wpAny (model X.prog X.w) X.A (call (.type "enumerate") [.ref l]) (fun v s1=>wpAny (model X.prog X.w) X.A (pyIter v) (PIE X pins σ (.Tuple elts kk tpos) R) X.xe s1) X.xe s:=by
  obtain ⟨us,r1,p1,z1⟩:=I.seqB h1
  obtain ⟨m,dct,sl,hl⟩:=ydS p1
  refine callType_new F.called_enumerate (by decide) (F.typeCall_enumerate_1 _) (F.newCall_enumerate_1 _) (fun obj=>F.args_object_init_2 obj _) F.entry_enumerate_new (ydU b l us.toArray m dct sl) ⟨hl,?_⟩
  generalize hn:s.heap.objs.size=n
  have s1:(s.heap.push (zam b l)).objs.size=n+1:=by rw [Heap.size_push,hn]
  generalize hG:(s.heap.push (zam b l)).push { cls:=.type "enumerate",data:=.fields #[.none,.bool false,.ref n,rawInt 0,.none,.none] }=G
  have old:∀c o,s.heap.get? c=some o→G.get? c=some o:=fun c o e=>hG ▸ Heap.get?_push_of_some _ (Heap.get?_push_of_some _ e)
  have ge:IsEnum G (n+1) n 0 .none:=by
    have e:G.get? (s.heap.push (zam b l)).objs.size=some { cls:=.type "enumerate",data:=.fields #[.none,.bool false,.ref n,rawInt 0,.none,.none] }:=hG ▸ Heap.get?_push_size _ rfl
    rw [s1] at e;exact e
  have gi:G.get? n=some (zam b l):=by
    have e:G.get? s.heap.objs.size=some (zam b l):=hG ▸ Heap.get?_push_of_some _ (Heap.get?_push_size _ rfl)
    rw [hn] at e;exact e
  rw [s1]
  refine ⟨⟨_,ge,rfl⟩,wpAny_pyIter_enum ge ?_⟩
  have I1:Inv X pins σ H { s with heap:=G }:=I.kept (t':=s.toks) old
  refine ⟨n+1,[n+1,n],_,_,H,rfl,I1,ze7 b (n+1) n l,⟨⟨_,ge⟩,zch _ _ _ _ gi⟩,fun c hc=>?_,q⟩
  have le:s.heap.objs.size≤c:=by
    rw [hn]
    simp only [List.mem_cons,List.not_mem_nil,or_false] at hc
    show @LE.le Nat _ n c
    rcases hc with e|e <;> (have e':@Eq Nat c _:=e;lia)
  exact I.fpOk le (I.hok.fresh le)
theorem zb3 {a:Expr} {ta:TA} {p pos:Pos} {elts:List Expr} {kk:Nat} {tpos:Pos} (hg:Gl X "enumerate") (hm:X.mg "enumerate"=none) (ha:PA X [a] ta) (hs:starEach [a] X.env=[(false,eval a X.env)]:=by rfl) :
    PI X (.Tuple elts kk tpos) (.Call (.Name "enumerate" p) [a] [] pos) (zhw X.K ta):=by
  intro pins s σ H R I h
  refine Call_ (zbG I hg hm (u:=.type "enumerate") boot_enumerate (PyProof.Rows.callWith_type1 (thn (ha pos pins s σ H _ I h) fun us s1 ⟨vs,H1,I1,r1,q1⟩=>?_) hs rfl))
  obtain ⟨b,a,e,⟨xs,h1⟩,q⟩:=q1
  subst e
  cases r1 with
  | cons r rr =>
    cases rr
    cases r
    exact zgF I1 h1 q
end
structure Seqs (J:It) (n:Nat) (G:Hp→Prop) (y:Nat→V→Hp→Hp→Prop):Prop where
  go:∀i H,i<n→G H→J.go i H
  stop:∀H,G H→J.stop n H
  yld:∀i H x H',i<n→G H→J.yld i H x H'→y i x H H'
theorem yaD {K:PySem.W.Frag} {a:Addr} {xs:List V}:Seqs (Itl K a) xs.length (fun H=>SqL K H a xs) (fun i x H H'=>H'=H∧xs[i]?=some x) :=
  ⟨fun i H hi g=>⟨xs,xs[i],g,by simp [hi]⟩,fun H g=>⟨xs,g,Nat.le_refl _⟩,fun i H x H' hi g q=>⟨q.1,q.2 xs g⟩⟩
theorem yc9 {K:PySem.W.Frag} {a:Addr} {xs:List V}:Seqs (Itt K a) xs.length (fun H=>SqT K H a xs) (fun i x H H'=>H'=H∧xs[i]?=some x) :=
  ⟨fun i H hi g=>⟨xs,xs[i],g,by simp [hi]⟩,fun H g=>⟨xs,g,Nat.le_refl _⟩,fun i H x H' hi g q=>⟨q.1,q.2 xs g⟩⟩
theorem ybA {lo:Int} {n:Nat}:Seqs (Itr lo n) n (fun _=>True) (fun i x H H'=>H'=H∧x = .int (lo+i)) :=
  ⟨fun i H hi _=>hi,fun H _=>Nat.le_refl _,fun i H x H' hi _ q=>q⟩
theorem zbU {K:PySem.W.Frag} {b1 b2:Bool} {l1 l2:Addr} {xs ys:List V}:Seqs (Itz K b1 b2 l1 l2) (min xs.length ys.length) (fun H=>SqB K b1 H l1 xs∧SqB K b2 H l2 ys)
    (fun i x H H'=>∃T u v,x = .ref T∧xs[i]?=some u∧ys[i]?=some v∧H T=none∧H'=upd H T (.tup [u,v])) :=
  ⟨fun i H hi g=>⟨xs,ys,xs[i]'(by lia),ys[i]'(by lia),g.1,g.2,by simp,by simp⟩,
   fun H g=>⟨xs,ys,g.1,g.2,by lia⟩,
   fun i H x H' hi g ⟨T,u,v,e1,e2,e3,e4,e5⟩=>⟨T,u,v,e1,e4 xs g.1,e5 ys g.2,e2,e3⟩⟩
theorem ya9 {K:PySem.W.Frag} {b:Bool} {l:Addr} {xs:List V}:Seqs (Ite K b l) xs.length (fun H=>SqB K b H l xs)
    (fun i x H H'=>∃T u,x = .ref T∧xs[i]?=some u∧H T=none∧H'=upd H T (.tup [.int i,u])) :=
  ⟨fun i H hi g=>⟨xs,xs[i],g,by simp [hi]⟩,fun H g=>⟨xs,g,Nat.le_refl _⟩,fun i H x H' hi g ⟨T,u,e1,e2,e3,e4⟩=>⟨T,u,e1,e4 xs g,e2,e3⟩⟩
theorem ybm {J:It} {n:Nat} {G:Hp→Prop} {y:Nat→V→Hp→Hp→Prop} (S:Seqs J n G y) {g:TG} {tb:TS} {D:Ends} {σ:St} {H:Hp} (Pv:Nat→St→Hp→Prop) (h0:Pv 0 σ H) (hl:∀i σ H,i≤n→Pv i σ H→G H)
    (hs:∀i x σ H H',i<n→Pv i σ H→y i x H H'→g x σ H' fun σ2 H2=>tb { D with nx:=Pv (i+1),ct:=Pv (i+1),bk:=D.nx } σ2 H2) (hd:∀σ H,Pv n σ H→D.nx σ H) :
    ∃W:Nat→Nat→St→Hp→Prop,(∃m,W 0 m σ H)∧∀i m σ H,W i m σ H→
      (J.stop i H∧D.nx σ H)∨(J.go i H∧∃N:St→Hp→Prop,(∀σ' H',N σ' H'→∃m',m'<m∧W (i+1) m' σ' H')∧∀x H',J.yld i H x H'→g x σ H' fun σ2 H2=>tb { D with nx:=N,ct:=N,bk:=D.nx } σ2 H2):=by
  refine ⟨fun i m σ H=>m=n-i∧i≤n∧Pv i σ H,⟨n,by simp,Nat.zero_le _,h0⟩,?_⟩
  rintro i m σ H ⟨rfl,hi,p⟩
  by_cases hlt:i<n
  · exact .inr ⟨S.go i H hlt (hl i σ H hi p),Pv (i+1),fun σ' H' p'=>⟨n-(i+1),by lia,rfl,hlt,p'⟩,fun x H' q=>hs i x σ H H' hlt p (S.yld i H x H' hlt (hl i σ H hi p) q)⟩
  · have e:i=n:=by lia
    subst e
    exact .inl ⟨S.stop H (hl _ σ H hi p),hd σ H p⟩
theorem yak {J:It} {n:Nat} {G:Hp→Prop} {y:Nat→V→Hp→Hp→Prop} (S:Seqs J n G y) {σc:St} {g:TG} {ti:TT} {te:TE} {H:Hp} {Fn:List V→Hp→Prop} (Pv:Nat→List V→Hp→Prop) (h0:Pv 0 [] H) (hl:∀i acc H,i≤n→Pv i acc H→G H)
    (hz:∀i acc H,i<n→Pv i acc H→acc.length<sizeLine)
    (hs:∀i acc x H H',i<n→Pv i acc H→y i x H H'→g x σc H' fun σ2 H2=>ti σ2 H2 fun b H3=>if b=true then te σ2 H3 fun v H4=>Pv (i+1) (acc++[v]) H4 else Pv (i+1) acc H3)
    (hd:∀acc H,Pv n acc H→Fn acc H) :
    ∃W:zg7,(∃m,W 0 m [] H)∧∀i m acc H,W i m acc H→
      (J.stop i H∧Fn acc H)∨
      (J.go i H∧acc.length<sizeLine∧∃N:List V→Hp→Prop,(∀acc' H',N acc' H'→∃m',m'<m∧W (i+1) m' acc' H')∧∀x H',J.yld i H x H'→g x σc H' fun σ2 H2=>ti σ2 H2 fun b H3=>if b=true then te σ2 H3 fun v H4=>N (acc++[v]) H4 else N acc H3):=by
  refine ⟨fun i m acc H=>m=n-i∧i≤n∧Pv i acc H,⟨n,by simp,Nat.zero_le _,h0⟩,?_⟩
  rintro i m acc H ⟨rfl,hi,p⟩
  by_cases hlt:i<n
  · exact .inr ⟨S.go i H hlt (hl i acc H hi p),hz i acc H hlt p,Pv (i+1),fun acc' H' p'=>⟨n-(i+1),by lia,rfl,hlt,p'⟩,fun x H' q=>hs i acc x H H' hlt p (S.yld i H x H' hlt (hl i acc H hi p) q)⟩
  · have e:i=n:=by lia
    subst e
    exact .inl ⟨S.stop H (hl _ acc H hi p),hd acc H p⟩
end L2
end
section
-- text: ExtF
set_option Elab.async false
set_option linter.all false
set_option maxRecDepth 100000
set_option maxHeartbeats 4000000
namespace L2
open PySem PySem.Spec PyProof.Rows
section
variable {X:Cx}
noncomputable def CDv (i j:Int):Prop:=0<j∧j<2^64
theorem CDv.log {i j:Int} (h:CDv i j):j.natAbs.log2<9000:=by
  obtain ⟨h1,h2⟩:=h
  have h0:j.natAbs≠0:=by lia
  have:j.natAbs<2^64:=by lia
  exact Nat.lt_of_lt_of_le ((Nat.log2_lt h0).mpr this) (by decide)
theorem zcF:OpR X (binaryOp .FloorDiv) (rI CDv fun i j=>.int (i/j)):=opI fun i j _ _ _ _ _ hc q=>by
  have h1:(0:Int)<j:=hc.1
  exact floordiv_int (by lia) (by rw [Int.fdiv_eq_ediv_of_nonneg i (by lia)];exact q) (.inl (PyProof.noPylong_of_log2 hc.log))
noncomputable def CDvB (i j:Int):Prop:=0<j∧j<2^1000
theorem CDvB.log {i j:Int} (h:CDvB i j):j.natAbs.log2<9000:=by
  obtain ⟨h1,h2⟩:=h
  have h0:j.natAbs≠0:=by lia
  have:j.natAbs<2^1000:=by lia
  exact Nat.lt_of_lt_of_le ((Nat.log2_lt h0).mpr this) (by decide)
theorem zdD:OpR X (binaryOp .FloorDiv) (rI CDvB fun i j=>.int (i/j)):=opI fun i j _ _ _ _ _ hc q=>by
  have h1:(0:Int)<j:=hc.1
  exact floordiv_int (by lia) (by rw [Int.fdiv_eq_ediv_of_nonneg i (by lia)];exact q) (.inl (PyProof.noPylong_of_log2 hc.log))
theorem zfr:OpR X (binaryOp .Mult) (rI IntMulOk fun i j=>.int (i*j)):=opI fun _ _ _ _ _ _ _ hc q=>mul_int q hc
noncomputable def rNeE (K:PySem.W.Frag):R2:=fun x y H Q=>∃a b xs,x = .ref a∧y = .ref b∧SqL K H a xs∧SqL K H b []∧Q (.bl (!xs.isEmpty)) H
theorem yf6 (hu:X.A.units<cLine):OpR X (compareOp .NotEq) (rNeE X.K):=by
  intro pins s σ H x y v u Q I rx ry h
  obtain ⟨a,b,xs,rfl,rfl,ha,hb,q⟩:=h
  cases rx;cases ry
  obtain ⟨us,r1,p1,z1⟩:=I.list ha
  obtain ⟨vs,r2,p2,z2⟩:=I.list hb
  cases r2
  cases xs with
  | nil =>
    cases r1
    exact SeqAt.RcNeAt.lists (e:=fun _=>true) p1.isList p2.isList rfl hu (fun j h1 _=>absurd h1 (by simp)) _ _ _ _ ⟨.bl false,H,I,rfl,q⟩
  | cons x xs =>
    cases r1
    exact SeqAt.RcNeAt.lists_lengths p1.isList p2.isList (by simp) hu _ _ _ _ ⟨.bl true,H,I,rfl,q⟩
noncomputable def tRev (K:PySem.W.Frag) (te:TE):TE:=fun σ H Q=>te σ H fun x H1=>∃a xs,x = .ref a∧SqL K H1 a xs∧∀p,H1 p=none→Q (.ref p) (upd H1 p (.lst xs.reverse))
theorem ygT {e:Expr} {te:TE} {p0 p1 p2 pos:Pos} {j} (he:PE X e te):PE X (.Subscript e (.Slice none none (some (.UnaryOp .USub (.Constant (.int 1) j p0) p1)) p2) pos) (tRev X.K te):=by
  intro pins s σ H Q I h
  refine Subscript_ (thn (he pins s σ H _ I h) fun v s1 ⟨x,H1,I1,r1,q1⟩=>?_)
  obtain ⟨a,xs,rfl,hx,q⟩:=q1
  cases r1
  refine wpAny_Slice ?_
  rw [evalPart_none]
  refine wpAny_pure ?_
  refine wpAny_pure ?_
  rw [evalPart_some]
  refine thn ((zeq ycP (yab (X:=X))) pins s1 σ H1 (fun v H'=>v = .int (-1)∧H'=H1) I1 ⟨1,rfl,rfl,rfl⟩) fun st s2 ⟨v,H2,I2,r2,e1,e2⟩=>?_
  subst e1 e2
  obtain ⟨t,rfl⟩:=r2
  have I4:Inv X pins σ H2 { s2 with heap:=s2.heap.push { cls:=.type "slice",data:=.fields #[.none,.none,.int (-1) t] } }:=I2.kept (t':=s2.toks) fun b ob q=>Heap.get?_push_of_some _ q
  obtain ⟨its,r,ht,hz⟩:=I4.list hx
  have hlen:=r.length
  show wpAny (model X.prog X.w) X.A (subscriptTail e _ (.ref a) (.ref s2.heap.objs.size)) (EP X pins σ Q) X.xe { s2 with heap:=s2.heap.push { cls:=.type "slice",data:=.fields #[.none,.none,.int (-1) t] } }
  refine tail_any (ops:=[.ref a,.ref s2.heap.objs.size]) ht.isList.typeIs slot_list_getitem.lookup ?_ (by with_unfolding_all rfl)
  refine wpAny_getItem_list_slice ht.isList (Heap.IsSliceOf.new ..) .none .none (.int (-1) t) (by simp) ?_ (by rw [List.size_toArray];lia)
  rw [PySem.W.krv_pick]
  refine ⟨.ref _,_,I4.laid (t':=s2.toks) (o:=.lst xs.reverse) (fun b ob q=>Heap.get?_push_of_some _ q) (Nat.le_refl _) ?_,rfl,q _ (I4.hok.fresh (Nat.le_refl _))⟩
  exact ⟨by rw [List.length_reverse];exact hz,its.reverse,0,r.reverse,Heap.get?_push_size _ rfl⟩
theorem ycO:∀ {bs:List Bool} {us:List Value},Vals (bs.map V.bl) us→us=bs.map Value.bool
  | [],_,.nil=>rfl
  | b::bs,_,.cons r t=>by cases r;rw [ycO t];rfl
theorem zeM (bs:List Bool):(List.range bs.length).all (fun i=>bs.getD i true)=bs.all id:=by
  induction bs with
  | nil=>rfl
  | cons b bs ih =>
    rw [List.length_cons,List.range_succ_eq_map,List.all_cons,List.all_cons,List.all_map]
    show ((b::bs).getD 0 true&&_)=_
    rw [List.getD_cons_zero]
    congr 1
noncomputable def yhm (K:PySem.W.Frag) (f:List Bool→Bool):List V→Hp→VK→Prop:=fun xs H Q=>∃a bs,xs=[.ref a]∧SqL K H a (bs.map V.bl)∧Q (.bl (f bs)) H
theorem zd3 {P:Program} {w:World} {A:Around} {bs:List Bool}:TruthOf P w A (fun i v=>(bs.map Value.bool).toArray[i]?=some v) (fun i=>bs.getD i true):=by
  intro i v s Q E hv q
  have hv':bs[i]?.map Value.bool=some v:=by simpa using hv
  cases e:bs[i]? with
  | none=>rw [e] at hv';cases hv'
  | some b =>
    rw [e] at hv';cases hv'
    have e2:bs.getD i true=b:=by simp [List.getD,e]
    have q':Q (bs.getD i true) s:=q
    rw [e2] at q'
    exact wpAny_truthy_bool q'
theorem yf1 (hc:X.calm=true):ybE X (.builtin "all") (yhm X.K fun bs=>bs.all id):=by
  intro pins s σ H xs us Q I r h
  obtain ⟨a,bs,rfl,ha,q⟩:=h
  obtain ⟨u,rfl,rx⟩:=yb1 r
  cases rx
  obtain ⟨its,r1,p1,z1⟩:=I.list ha
  have e:=ycO r1
  subst e
  refine call_all_walk (wpAny_pyIter_list p1.isList ?_)
  have hh:X.A.in1.handled=none:=I.ok.hd hc
  have ne:a≠s.heap.objs.size:=fun z=>by obtain ⟨o,n,e,_⟩:=p1;have l:s.heap.objs.size≥Nat.succ a:=Heap.lt_size e;have z':@Eq Nat a s.heap.objs.size:=z;lia
  refine ⟨_,_,_,_,_,_,_,rfl,Walks.list hh s.heap.objs.size a ne _,⟨⟨_,Heap.get?_push_size _ rfl,rfl,rfl⟩,p1.isList.push _⟩,zd3,fun h' tk k=>?_⟩
  have I1:Inv X pins σ H { s with heap:=h',toks:=tk }:=I.kept fun b o e=>k b o (by simp only [List.mem_singleton];exact Nat.ne_of_lt (Heap.lt_size e)) (Heap.get?_push_of_some _ e)
  refine ⟨.bl _,H,I1,?_,q⟩
  show Value.bool _=Value.bool _
  congr 1
  have:=zeM bs
  simpa using this
noncomputable def Itd (hi:Int) (n:Nat):It:=⟨fun i _=>i<n,fun i H x H'=>H'=H∧x = .int (hi-i),fun i _=>n≤i⟩
theorem zfc {P:Program} {w:World} {K:PySem.W.Frag} {tg:Expr} (it:Addr) (hi:Int) (n:Nat):Turn P w K tg (Itd hi n) [it] it (fun i h=>IsRangeIter h it (hi+(i:Nat)*(-1)) ((n:Int)-(i:Nat)) (-1)) where
  mem:=by simp
  obj:=fun i h st b hb=>by
    have e:b=it:=by simpa using hb
    subst e
    exact ⟨_,st,fun v z=>by have z':Data.fields _=Data.cell v:=z;cases z'⟩
  keep:=fun i h h' st k=>k it (by simp) _ st
  item:=by
    intro X hP hw hK hc i pins s σ H E I hf st hg
    subst hP hw hK
    obtain ⟨f0,f1,f2,f3,f4,f5⟩:=hf it (by simp)
    have W:=Walks.range (prog:=X.prog) (w:=X.w) (I.ok.hd hc) it hi (-1) n
    refine W.item i s _ _ hg st fun v h' tk hv st' kk=>?_
    obtain ⟨t,rfl⟩:=hv
    have I1:Inv X pins σ H { s with heap:=h',toks:=tk }:=I.turned (fun b o hb e=>kk b o (by simpa using hb) e) f0 f1 f3 f4 f5
    refine ⟨_,rfl,zfO (s:={ s with heap:=h',toks:=tk }) (n:="range_iterator") st' rfl rfl (by decide) ⟨.int (hi-i),H,I1,⟨t,?_⟩,⟨rfl,rfl⟩,st',fun b hb=>(hf b hb).1⟩⟩
    congr 1;lia
  done:=by
    intro X hP hw hK hc i pins s σ H E I hf st hg
    subst hP hw hK
    obtain ⟨f0,f1,f2,f3,f4,f5⟩:=hf it (by simp)
    exact wpAny_pyNext_range_end (I.ok.hd hc) st (by have:n≤i:=hg;lia) fun h' eb=>⟨rfl,I.turned (t':=s.toks) (fun b o hb e=>eb b o hb e) f0 f1 f3 f4 f5⟩
  self:=fun _ _ _ _ _ st h=>wpAny_pyIter_rangeiter st h
theorem yeF {hi:Int} {n:Nat}:Seqs (Itd hi n) n (fun _=>True) (fun i x H H'=>H'=H∧x = .int (hi-i)) :=
  ⟨fun i H hi _=>hi,fun H _=>Nat.le_refl _,fun i H x H' hi _ q=>q⟩
noncomputable def zht (ta:TA):TI:=fun σ H R=>ta σ H fun vs H1=>∃i j:Int,vs=[.int i,.int j,.int (-1)]∧(-(2^62)≤i∧i<2^62∧-(2^62)≤j∧j<2^62)∧R (Itd i (i-j).toNat) H1
theorem ygL {a b c:Expr} {ta:TA} {tg:Expr} {p pos:Pos} (hg:Gl X "range") (hm:X.mg "range"=none) (ha:PA X [a,b,c] ta) (hs:starEach [a,b,c] X.env=(false,eval a X.env)::starEach [b,c] X.env:=by rfl) (hs2:(backTo pos (starEach [b,c] X.env)).any (·.1)=false:=by rfl) :
    PI X tg (.Call (.Name "range" p) [a,b,c] [] pos) (zht ta):=by
  intro pins s σ H R I h
  refine Call_ (zbG I hg hm boot_range (PyProof.Rows.callWith_type1 (thn (ha pos pins s σ H _ I h) fun us s1 ⟨vs,H1,I1,r1,q1⟩=>?_) hs hs2))
  obtain ⟨i,j,e,⟨b1,b2,b3,b4⟩,q⟩:=q1
  subst e
  cases r1 with
  | cons r rr =>
    cases rr with
    | cons r' rr =>
      cases rr with
      | cons r'' rr =>
        cases rr
        obtain ⟨t,rfl⟩:=r
        obtain ⟨t',rfl⟩:=r'
        obtain ⟨t'',rfl⟩:=r''
        refine call_range_3 (by decide) ?_ (.inl (PyProof.noPylong_small (by decide)))
        refine wpAny_pyIter_range (IsRange.new ..) (PySem.W.small_down b1 b2 b3 b4) ?_
        generalize hG:s1.heap.push { cls:=.type "range",data:=.fields #[.int i t,.int j t',.int (-1) t''] }=G
        have I2:Inv X pins σ H1 { s1 with heap:=G }:=I1.kept (t':=s1.toks) fun b o e=>hG ▸ Heap.get?_push_of_some _ e
        refine ⟨G.objs.size,[G.objs.size],_,_,H1,rfl,I2.kept (t':=s1.toks) fun b o e=>Heap.get?_push_of_some _ e,zfc _ i (i-j).toNat,?_,fun b hb=>?_,q⟩
        · have e1:i+((0:Nat):Int)*(-1)=i:=by simp
          have e2:(((i-j).toNat:Nat):Int)-((0:Nat):Int)=Builtin.Range.rangeSize i j (-1):=by rw [PySem.W.rangeSize_downNat];simp
          show IsRangeIter _ _ (i+((0:Nat):Int)*(-1)) ((((i-j).toNat:Nat):Int)-((0:Nat):Int)) (-1)
          rw [e1,e2]
          exact Heap.get?_push_size _ rfl
        · have e:b=G.objs.size:=by simpa using hb
          subst e
          exact I2.fpOk (Nat.le_refl _) (I2.hok.fresh (Nat.le_refl _))
noncomputable def tRng (ta:TA):TE:=fun σ H Q=>ta σ H fun vs H1=>∃j:Int,vs=[.int j]∧∀p,H1 p=none→Q (.ref p) (upd H1 p (.rng 0 j))
theorem ydo {a:Expr} {ta:TA} {p pos:Pos} (hg:Gl X "range") (hm:X.mg "range"=none) (ha:PA X [a] ta) (hs:starEach [a] X.env=[(false,eval a X.env)]:=by rfl):PE X (.Call (.Name "range" p) [a] [] pos) (tRng ta):=by
  intro pins s σ H Q I h
  refine Call_ (zbG I hg hm boot_range (PyProof.Rows.callWith_type1 (thn (ha pos pins s σ H _ I h) fun us s1 ⟨vs,H1,I1,r1,q1⟩=>?_) hs rfl))
  obtain ⟨j,e,q⟩:=q1
  subst e
  cases r1 with
  | cons r rr =>
    cases rr
    obtain ⟨t,rfl⟩:=r
    exact call_range_1 ⟨.ref _,_,I1.laid (o:=.rng 0 j) (fun b o e=>Heap.get?_push_of_some _ e) (Nat.le_refl _) ⟨_,_,_,Heap.get?_push_size _ rfl⟩,rfl,q _ I1.fresh⟩
noncomputable def intsFrom (lo:Int) (n:Nat):List V:=(List.range n).map fun (i:Nat)=>V.int (lo+(i:Int))
theorem yct:∀ {xs:List V} {us:List Value},xs.length=us.length→(∀(i:Nat) x u,xs[i]?=some x→us[i]?=some u→RelV x u)→Vals xs us
  | [],[],_,_=>.nil
  | [],_::_,h,_=>by simp at h
  | _::_,[],h,_=>by simp at h
  | x::xs,u::us,h,g=>.cons (g 0 x u rfl rfl) (yct (by simpa using h) fun i y v e1 e2=>g (i+1) y v (by simpa using e1) (by simpa using e2))
theorem ydv {lo:Int} {n:Nat} {acc:Array Value} (h:ItemsOf (fun i v=>∃t,v = .int (lo+i*1) t) acc n):Vals (intsFrom lo n) acc.toList:=by
  refine yct (by simp [intsFrom,h.1]) fun i x u e1 e2=>?_
  obtain ⟨t,rfl⟩:=h.2 i u (by simpa using e2)
  have:x=V.int (lo+i):=by
    unfold intsFrom at e1
    rw [List.getElem?_map] at e1
    cases hr:(List.range n)[i]? with
    | none=>rw [hr] at e1;cases e1
    | some j =>
      rw [hr] at e1
      have:j=i:=by
        obtain ⟨h1,h2⟩:=List.getElem?_eq_some_iff.mp hr
        simpa using h2.symm
      subst this
      exact (Option.some.inj e1).symm
  subst this
  exact ⟨t,by simp⟩
theorem ybN (hc:X.calm=true):ybE X (.type "list") (fun xs H Q=>∃p lo hi,xs=[.ref p]∧H p=some (.rng lo hi)∧(-(2^62)≤lo∧lo<2^62∧-(2^62)≤hi∧hi<2^62)∧(hi-lo).toNat≤sizeLine∧∀l,H l=none→Q (.ref l) (upd H l (.lst (intsFrom lo (hi-lo).toNat)))):=by
  intro pins s σ H xs us Q I r h
  obtain ⟨p,lo,hi,rfl,hp,⟨b1,b2,b3,b4⟩,hz,q⟩:=h
  obtain ⟨u,rfl,rx⟩:=yb1 r
  cases rx
  obtain ⟨t,u,v,e⟩:=I.hok p _ hp
  refine call_list_range (n:=(hi-lo).toNat) (I.ok.hd hc) e (small_one b1 b2 b3 b4) (by rw [rangeSize_one];split <;> lia) (by have:=sizeLine_eq;lia) fun h' tk acc c k ho hi'=>?_
  have rv:=ydv hi'
  refine ⟨.ref _,_,I.laid (t':=tk) k (Nat.le_refl _) (show zaX X.prog X.w _ h' _ (.lst (intsFrom lo (hi-lo).toNat)) from ⟨?_,acc.toList,c,rv,by simpa using ho⟩),rfl,q _ I.fresh⟩
  simpa [intsFrom] using hz
noncomputable def Has (P:Program) (w:World) (K:PySem.W.Frag) (mg:Str→Option Value) (base:Heap) (n:Nat) (x:Str) (ps:List Str) (sp:Sp):Prop :=
  ∃f fd,FnOk P w K mg base CX0 n f fd ps sp∧yes K fd ps []∧PySem.W.keepIn K (.ref f)=true∧mg x=some (.ref f)
theorem yfA {n k:Nat} {x:Str} {ps:List Str} {sp:Sp} {e:Expr} {es:List Expr} {t:TA} {p pos:Pos} (h:Has X.prog X.w X.K X.mg X.base n x ps sp) (hr:Room k X.A) (hle:n≤k) (hg:Gl X x) (ha:PA X (e::es) t)
    (hdb:(x==("__debug__":Str))=false:=by decide) (he:starEach (e::es) X.env=(false,eval e X.env)::starEach es X.env:=by rfl) (hpl:(backTo pos (starEach es X.env)).any (·.1)=false:=by rfl) :
    PE X (.Call (.Name x p) (e::es) [] pos) (ygy sp [] E0 t):=by
  obtain ⟨f,fd,F,B,kp,m⟩:=h
  exact ygw F (hr.mono hle) hg m kp B .nil zhk ha hdb he hpl
theorem ybx {c:TT} {tb:TS} {D:Ends} {σ:St} {H:Hp} (Pv:St→Hp→Prop) (μ:St→Hp→Nat) (h0:Pv σ H)
    (hs:∀σ H,Pv σ H→c σ H fun b H1=>if b=true then ∃N:St→Hp→Prop,(∀σ' H',N σ' H'→∃m',m' < μ σ H∧m'=μ σ' H'∧Pv σ' H')∧tb { D with nx:=N,ct:=N,bk:=D.nx } σ H1 else D.nx σ H1):zf7 c tb D σ H:=by
  refine ⟨fun m σ H=>m=μ σ H∧Pv σ H,⟨_,rfl,h0⟩,?_⟩
  rintro m σ H ⟨rfl,p⟩
  exact hs σ H p
end
end L2
end
section
-- text: ExtG
set_option Elab.async false
set_option linter.all false
set_option maxRecDepth 100000
set_option maxHeartbeats 4000000
namespace L2
open PySem PySem.Spec PyProof.Rows
section
variable {X:Cx}
theorem zbl:bootBuiltins "list"=some (.type "list"):=by decide +kernel
theorem yau:bootBuiltins "tuple"=some (.type "tuple"):=by decide +kernel
theorem ybI:bootBuiltins "int"=some (.type "int"):=by decide +kernel
theorem zcl:bootBuiltins "abs"=some (.builtin "abs"):=by decide +kernel
theorem zdY:bootBuiltins "min"=some (.builtin "min"):=by decide +kernel
theorem ydE:bootBuiltins "max"=some (.builtin "max"):=by decide +kernel
theorem zfA (i:Int) (t:Tok):RelV (.int i) (.int i t):=⟨t,rfl⟩
theorem zbY {es:List Expr} {k:Nat} {t:TGs} {n:Nat} {pos:Pos} {K:PySem.W.Frag} (hK:X.K=K) (hc:X.calm=true) (h:PGs X es t)
    (hn:(assignEach es X.env).length=n:=by rfl) (hst:(assignEach es X.env).findIdx? (·.1)=none:=by rfl):PG X (.Tuple es k pos) (gTup K n t):=hK ▸ zck hc h hn hst
end
end L2
end
section
-- text: ExtH
set_option Elab.async false
set_option linter.all false
set_option maxRecDepth 100000
set_option maxHeartbeats 4000000
namespace L2
open PySem PySem.Spec PyProof.Rows
theorem yeN {prog:Program} {w:World} {A:Around} {E:Value→Shared→Prop} {s:Shared} {a:Addr} {xs:Array Value} {k:Nat} {sl:Array (Option Value)} {u:Tok} {Q:Value→Shared→Prop}
    (hx:s.heap.get? a=some { cls:=.type "list",dict:=none,data:=.seq xs k,slots:=sl }) (hA:A.handled=none)
    (h:∀h' tk e,Heap.NewExcOf s.heap h' e "AttributeError"→E (.ref e) { s with heap:=h',toks:=tk }) :
    wpAny (model prog w) A (getAttrBy (.ref a) (.str "keys" u) false) Q E s:=by
  have hmiss:typeLookup (.type "list") "keys"=pure none:=by rw [typeLookup_type,builtinLookup_eq_fast];kernel_rfl
  obtain ⟨hp,g,d,tk,os⟩:=s
  have hT:∀tk',(⟨hp,g,d,tk',os⟩:Shared).TypeIs (.ref a) "list":=fun _=>⟨_,hx,rfl⟩
  have f1:=sub_AttributeError
  have f3:=F.slot_list_getattribute.lookup
  have f4:=F.slot_list_getattribute.bind (.ref a)
  have f5:=am_list_getattr_none
  unfold getAttrBy
  repeat (any_goals (first|assumption|exact hT _|((with_reducible show wpAny _ _ (call (Value.builtin "list.__getattribute__") _ _) _ _ _);refine call_meets F.slot_list_getattribute (hT _) am_entry_list_getattribute (F.args_list_getattribute_2 _ _) (meets_getattribute_miss_list a xs k sl "keys" _ hmiss (by decide +kernel)) ⟨hx,hA,fun h' tk' e hx'=>?_⟩)|wp_step))
  obtain ⟨t',u',he⟩:=hx'.there
  show wpAny _ _ (getattributeRaised _ _ _ _ _ _ _) _ _ _
  unfold getattributeRaised
  repeat (any_goals (first|assumption|wp_step))
  exact h _ _ _ hx'.of
theorem yeE {prog:Program} {w:World} {A:Around} {E:Value→Shared→Prop} {s:Shared} {a:Addr} {xs:Array Value} {k:Nat} {sl:Array (Option Value)} {Q:Option Value→Shared→Prop}
    (hx:s.heap.get? a=some { cls:=.type "list",dict:=none,data:=.seq xs k,slots:=sl }) (hA:A.handled=none)
    (h:∀h' tk,(∀b o,s.heap.get? b=some o→h'.get? b=some o)→Q none { s with heap:=h',toks:=tk }) :
    wpAny (model prog w) A (getAttr? (.ref a) "keys") Q E s:=by
  have f1:=sub_AttributeError
  unfold getAttr? getAttrBy?
  refine wpAny_bind (wpAny_mkText ?_)
  refine wpAny_bind ?_
  refine wpAny_attempt ?_
  refine yeN (by exact hx) hA fun h' tk e ne=>?_
  obtain ⟨oe,_,he,hc,_⟩:=ne.there
  show wpAny _ _ (isInstance (.ref e) (.type "AttributeError") >>= _) _ _ _
  refine wpAny_bind (wpAny_isInstance ⟨_,he,hc⟩ f1 ?_)
  exact wpAny_pure (h _ _ ne.keeps)
theorem zbu:entryFor table "dict.update.loop"=some Builtin.«dict.update.loop»:=entryFor_of_fast (by kernel_rfl)
theorem yaG:plainId "dict.update.loop"=true:=by decide +kernel
section
variable {prog:Program} {w:World} {K:Type} [DecidableEq K] {knd:KeyKind prog w K} {A:Around} {R:Result→Shared→Prop} {I ax d:Addr}
theorem zfj (hh:A.in1.handled=none) (items:Array Value) (more:List (K×Value)) (hne:ax≠I) (hdI:d≠I) (hda:d≠ax) (hsz:items.size≤sizeLine) (hml:more.length=items.size)
    (tp:Nat→Addr) (hit:∀j,j<items.size→items[j]?=some (.ref (tp j))) (htd:∀j,j<items.size→tp j≠d∧tp j≠I) :
    ∀(k i:Nat) (s:Shared) (t:Tok) (kvs:List (K×Value)),items.size-i=k→i≤items.size→s.heap.IsListIter I ax i∧s.heap.IsList ax items→s.heap.DictOf knd d kvs→kvs.length≤i→
    (∀j kv,more[j]?=some kv→∃key,knd.is kv.1 key=true∧s.heap.IsTuple (tp j) #[key,kv.2])→
    (∀s',s'.heap.DictOf knd d (merged kvs (more.drop i))→(∀b o,b≠I→b≠d→s.heap.get? b=some o→s'.heap.get? b=some o)→(∃h' tk,s'={ s with heap:=h',toks:=tk })→R (.ok (.ret .none)) s')→
    codeAny (model prog w) A (.builtin "dict.update.loop" ⟨[.ref d,.ref I,.int (i:Int) t,.none],[]⟩) R s:=by
  have W:=Walks.list (prog:=prog) (w:=w) hh I ax hne items
  intro k
  induction k with
  | zero =>
    intro i s t kvs hk hi hst hd hkl hpairs hR
    have hin:i=items.size:=by lia
    subst hin
    refine codeAny_builtin zbu ?_
    rw [Around.under_plainId yaG _]
    show wpAny _ A.in1 (pyNext (.ref I) >>= _) _ _ s
    refine wpAny_bind (W.done s _ _ hst fun h' tk hk'=>?_)
    have hm:more.drop items.size=[]:=List.drop_of_length_le (by lia)
    rw [hm] at hR
    have hd':h'.DictOf knd d kvs:=hd.at fun o e=>hk' d o (by simp [hdI]) e
    refine wpAny_pure (hR { s with heap:=h',toks:=tk } hd' (fun b o h1 h2 e=>hk' b o (by simp [h1]) e) ⟨_,_,rfl⟩)
  | succ k ih =>
    intro i s t kvs hk hi hst hd hkl hpairs hR
    have hlt:i<items.size:=by lia
    refine codeAny_builtin zbu ?_
    rw [Around.under_plainId yaG _]
    show wpAny _ A.in1 (pyNext (.ref I) >>= _) _ _ s
    refine wpAny_bind (W.item i s _ _ hlt hst fun v h' tk hP hst' hk'=>?_)
    rw [hit i hlt] at hP
    cases hP
    obtain ⟨kv,hkv⟩:∃kv,more[i]?=some kv:=⟨more[i]'(by lia),List.getElem?_eq_getElem (by lia)⟩
    obtain ⟨key,hkey,htup⟩:=hpairs i kv hkv
    have htup':h'.IsTuple (tp i) #[key,kv.2]:=htup.at fun o e=>hk' _ o (by simp [(htd i hlt).2]) e
    obtain ⟨ot,hot,hoc,nn,hod⟩:=id htup'
    have hd':h'.DictOf knd d kvs:=hd.at fun o e=>hk' d o (by simp [hdI]) e
    refine wpAny_bind (wpAny_holding ?_)
    refine wpAny_bind (wpAny_tryCatch ?_)
    unfold Builtin.Dict.pairItems
    refine wpAny_bind (wpAny_typeOf ⟨_,hot,hoc⟩ ?_)
    rw [if_pos (by decide)]
    refine wpAny_bind (wpAny_seqItems hot hod ?_)
    refine wpAny_pure ?_
    show wpAny _ A.in1 (holding [key,kv.2] (dictSet d key kv.2)) _ _ _
    refine wpAny_holding (wpAny_dictSet_pairs (hsz:=by lia) hkey hd' fun h2 hd2 hs2=>?_)
    have step:more.drop i=kv::more.drop (i+1):=by
      rw [List.drop_eq_getElem_cons (by lia)]
      congr 1
      exact Option.some.inj ((List.getElem?_eq_getElem (by lia)).symm.trans hkv)
    refine wpAny_pure ⟨plainId_quiet yaG _,ih (i+1) _ _ (stored kvs kv.1 kv.2) (by lia) hlt ?_ hd2 ?_ (fun j kv' hj=>?_) fun s' h1 h2' h3=>hR s' ?_ (fun b o n1 n2 e=>h2' b o n1 n2 (hs2.extBut b o n2 (hk' b o (by simp [n1]) e))) ?_⟩
    · exact W.frame _ _ _ hst' fun b hb o e=>hs2.extBut b o (by simp only [List.mem_cons,List.not_mem_nil,or_false] at hb;rcases hb with rfl|rfl;exact Ne.symm hdI;exact Ne.symm hda) e
    · have:=stored_length_le kvs kv.1 kv.2;lia
    · obtain ⟨key',a1,a2⟩:=hpairs j kv' hj
      have hj':j<items.size:=by rw [←hml];exact (List.getElem?_eq_some_iff.mp hj).1
      exact ⟨key',a1,(a2.at fun o e=>hk' _ o (by simp [(htd j hj').2]) e).at fun o e=>hs2.extBut _ o (htd j hj').1 e⟩
    · rw [step];exact h1
    · obtain ⟨h4,tk4,rfl⟩:=h3;exact ⟨_,_,rfl⟩
end
section
variable {X:Cx}
theorem Vals.getR:∀ {xs:List V} {us:List Value},Vals xs us→∀(j:Nat) x u,xs[j]?=some x→us[j]?=some u→RelV x u
  | _,_,.nil,j,x,u,e,_=>by simp at e
  | _::_,_::_,.cons r t,0,x,u,e1,e2=>by simp at e1 e2;subst e1 e2;exact r
  | _::_,_::_,.cons r t,j+1,x,u,e1,e2=>Vals.getR t j x u (by simpa using e1) (by simpa using e2)
noncomputable def zgq:List V→Hp→VK→Prop:=fun xs H Q=>∃(a:Addr) (ts:List Addr) (kvs:List (Key×V)),xs=[.ref a]∧H a=some (.lst (ts.map V.ref))∧ts.length=kvs.length∧kvs.length≤sizeLine∧
  (∀(j:Nat) t kv,ts[j]?=some t→kvs[j]?=some kv→H t=some (.tup [kV kv.1,kv.2]))∧(kvs.map (·.1)).Nodup∧∀D,H D=none→Q (.ref D) (upd H D (.dK kvs))
theorem ycN {P:Program} {w:World} {pins:List (Addr×Obj)} {σ:St} {H:Hp} {s:Shared} (I:Inv X pins σ H s):∀(ts:List Addr) (kvs:List (Key×V)),ts.length=kvs.length→(∀(j:Nat) t kv,ts[j]?=some t→kvs[j]?=some kv→H t=some (.tup [kV kv.1,kv.2]))→
    ∃vs:List (Key×Value),KV kvs vs∧vs.length=ts.length∧∀(j:Nat) kv t,vs[j]?=some kv→ts[j]?=some t→∃key,(zaz P w).is kv.1 key=true∧s.heap.IsTuple t #[key,kv.2]
  | [],[],_,_=>⟨[],.nil,rfl,fun j kv t e=>by simp at e⟩
  | [],_::_,h,_=>by simp at h
  | _::_,[],h,_=>by simp at h
  | t::ts,kv::kvs,h,hp=>by
    obtain ⟨vs,h1,h2,h3⟩:=ycN I ts kvs (by simpa using h) fun j t' kv' e1 e2=>hp (j+1) t' kv' (by simpa using e1) (by simpa using e2)
    obtain ⟨its,r,p,_⟩:=I.tuple (SqT.of (hp 0 t kv rfl rfl))
    cases r with
    | cons ra rr =>
      cases rr with
      | cons rb rz =>
        cases rz
        rename_i ka va
        refine ⟨(kv.1,va)::vs,.cons ⟨rfl,rb⟩ h1,by simp [h2],fun j kv' t' e1 e2=>?_⟩
        cases j with
        | zero =>
          simp at e1 e2
          subst e1 e2
          exact ⟨ka,zfP ra,p⟩
        | succ j=>exact h3 j kv' t' (by simpa using e1) (by simpa using e2)
theorem zcp (hc:X.calm=true):ybE X (.type "dict") zgq:=by
  intro pins s σ H xs us Q I r h
  obtain ⟨a,ts,kvs,rfl,ha,hl,hsz,hp,hn,q⟩:=h
  obtain ⟨u,rfl,rx⟩:=yb1 r
  cases rx
  obtain ⟨its,r1,p1,z1⟩:=I.list (SqL.of ha)
  refine callType_codes (Q₁:=fun obj s₁=>obj = .ref s.heap.objs.size∧s₁={ s with heap:=s.heap.push { cls:=.type "dict",data:=.dict #[] } }) F.kt_called_dict (F.kt_typeCall_dict_1 _) F.entry_dict_init (kt_code_dict_new _ ⟨rfl,rfl⟩) ?_
  rintro obj s₁ ⟨rfl,rfl⟩
  have hnew:(s.heap.push { cls:=.type "dict",data:=.dict #[] }).DictOf (zaz X.prog X.w) s.heap.objs.size []:=Heap.DictOf.new s.heap
  refine ⟨hnew.typeIs,F.args_dict_init_2 _ _,?_⟩
  unfold Builtin.«dict.__init__»
  refine wpAny_bind ?_
  unfold Builtin.Dict.selfAndRest
  refine wpAny_bind (wpAny_notOrdered_dict hnew.typeIs ?_)
  show wpAny _ _ (pure (s.heap.objs.size,[Value.ref a])) _ _ _
  refine wpAny_pure ?_
  show wpAny _ _ (Builtin.Dict.updateFrom "dict.__init__" s.heap.objs.size (.ref a) [] .none) _ _ _
  unfold Builtin.Dict.updateFrom
  have hne:∀b o,s.heap.get? b=some o→b≠s.heap.objs.size:=fun b o e z=>by have l:s.heap.objs.size≥Nat.succ b:=Heap.lt_size e;have z':@Eq Nat b s.heap.objs.size:=z;lia
  obtain ⟨vs,hKV,hvl,hvs⟩:=ycN (P:=X.prog) (w:=X.w) I ts kvs hl hp
  have hA:X.A.in1.in1.handled=none:=I.ok.hd hc
  obtain ⟨⟨ca,da,dta,sla⟩,na,hoa,hca,hda,hdt⟩:=id p1
  dsimp only at hca hda hdt
  subst hca hda hdt
  have e1:(s.heap.push { cls:=.type "dict",data:=.dict #[] }).get? a=some { cls:=.type "list",dict:=none,data:=.seq its.toArray na,slots:=sla }:=Heap.get?_push_of_some _ hoa
  refine wpAny_bind (wpAny_typeOf ⟨_,e1,rfl⟩ ?_)
  dsimp only
  rw [if_pos (by decide)]
  refine wpAny_bind (yeE e1 hA fun h1 tk1 hk1=>?_)
  rw [if_pos (show (none:Option Value).isNone=true from rfl)]
  refine wpAny_bind (wpAny_rule ?_)
  have e2:h1.IsList a its.toArray:=⟨_,hk1 _ _ e1,rfl,na,rfl⟩
  refine wpAny_bind (wpAny_pyIter_list e2 ?_)
  have hN:s.heap.objs.size<h1.objs.size:=Heap.lt_size (hk1 _ _ (Heap.get?_push_size _ rfl))
  have hI:∀b o,h1.get? b=some o→b≠h1.objs.size:=fun b o e z=>by have l:h1.objs.size≥Nat.succ b:=Heap.lt_size e;have z':@Eq Nat b h1.objs.size:=z;lia
  have kp:∀b o,s.heap.get? b=some o→(h1.push { cls:=.type "list_iterator",data:=.fields #[.ref a,.int 0 0] }).get? b=some o:=fun b o e=>Heap.get?_push_of_some _ (hk1 _ _ (Heap.get?_push_of_some _ e))
  have hr1:=r1.length
  have hlen:its.toArray.size=ts.length:=by rw [List.size_toArray,←hr1,List.length_map]
  have hti:∀j,j<its.toArray.size→its.toArray[j]?=some (.ref (ts.getD j 0)):=by
    intro j hj
    rw [hlen] at hj
    have hj2:j<its.length:=by rw [←hr1,List.length_map];exact hj
    rw [List.getElem?_toArray,List.getElem?_eq_getElem hj2]
    have g:=Vals.getR r1 j (.ref (ts.getD j 0)) its[j] (by rw [List.getElem?_map,List.getElem?_eq_getElem hj];simp [List.getD,hj]) (List.getElem?_eq_getElem hj2)
    exact congrArg some g
  have htu:∀j,j<its.toArray.size→∃o,s.heap.get? (ts.getD j 0)=some o:=by
    intro j hj
    rw [hlen] at hj
    have hj2:j<vs.length:=by rw [hvl];exact hj
    obtain ⟨key,_,o,ho,_⟩:=hvs j vs[j] (ts.getD j 0) (List.getElem?_eq_getElem hj2) (by simp [List.getD,hj])
    exact ⟨o,ho⟩
  refine wpAny_pure ⟨plainId_quiet yaG _,?_⟩
  refine zfj (knd:=zaz X.prog X.w) (A:=X.A.in1) (I:=h1.objs.size) (ax:=a) (d:=s.heap.objs.size) hA its.toArray vs (hI _ _ (hk1 _ _ e1)) (Nat.ne_of_lt hN) (Ne.symm (hne _ _ hoa)) (by rw [hlen,hl];exact hsz) (by rw [hvl,hlen]) (fun j=>ts.getD j 0) hti
    (fun j hj=>by obtain ⟨o,ho⟩:=htu j hj;exact ⟨hne _ _ ho,hI _ _ (hk1 _ _ (Heap.get?_push_of_some _ ho))⟩) _ 0 _ _ [] rfl (Nat.zero_le _) ⟨⟨_,Heap.get?_push_size _ rfl,rfl,rfl⟩,e2.push _⟩ ?_ (Nat.le_refl _) ?_ ?_
  · exact (hnew.at fun o e=>hk1 _ _ e).push _
  · intro j kv hj
    have hj2:j<ts.length:=by rw [←hvl];exact (List.getElem?_eq_some_iff.mp hj).1
    obtain ⟨key,k1,k2⟩:=hvs j kv (ts.getD j 0) hj (by simp [List.getD,hj2])
    exact ⟨key,k1,k2.at fun o e=>kp _ _ e⟩
  · rintro s' hd hk ⟨h',tk,rfl⟩
    have hkeys:vs.map (·.1)=kvs.map (·.1):=(KV.keys hKV).symm
    rw [List.drop_zero,merged_nil_of_nodup vs (by rw [hkeys];exact hn)] at hd
    refine ⟨rfl,.ref s.heap.objs.size,_,I.laid (a:=s.heap.objs.size) (o:=.dK kvs) (t':=tk) (h':=h') (fun b o e=>hk b o (hI _ _ (hk1 _ _ (Heap.get?_push_of_some _ e))) (hne _ _ e) (kp _ _ e)) (Nat.le_refl _) ⟨hsz,beq_eq_false_iff_ne.mpr (Ne.symm (Nat.ne_of_lt I.big)),vs,hKV,hd⟩,rfl,q _ (I.hok.fresh (Nat.le_refl _))⟩
end
end L2
end
section
-- text: ExtI
set_option Elab.async false
set_option linter.all false
set_option maxRecDepth 100000
set_option maxHeartbeats 4000000
namespace L2
open PySem PySem.Spec PyProof.Rows
section
variable {X:Cx}
theorem yeO {A:Around} {s:Shared}:∀ {xs:List Int} {us:List Value},Vals (xs.map V.int) us→∀ {ys:List Int} {vs:List Value},Vals (ys.map V.int) vs→∀j (h1:j<us.toArray.size) (h2:j<vs.toArray.size),SeqAt.EqAt A s us.toArray[j] vs.toArray[j] (xs.getD j 0==ys.getD j 0):=by
  intro xs us r1 ys vs r2 j h1 h2
  have l1:=r1.length
  have l2:=r2.length
  rw [List.length_map] at l1 l2
  rw [List.size_toArray] at h1 h2
  have g1:=Vals.getR r1 j (.int (xs.getD j 0)) us[j] (by rw [List.getElem?_map,List.getElem?_eq_getElem (by lia)];simp [List.getD,show j<xs.length by lia]) (List.getElem?_eq_getElem h1)
  have g2:=Vals.getR r2 j (.int (ys.getD j 0)) vs[j] (by rw [List.getElem?_map,List.getElem?_eq_getElem (by lia)];simp [List.getD,show j<ys.length by lia]) (List.getElem?_eq_getElem h2)
  obtain ⟨t1,e1⟩:=g1
  obtain ⟨t2,e2⟩:=g2
  rw [List.getElem_toArray,List.getElem_toArray,e1,e2]
  exact SeqAt.EqAt.int_int _ t1 _ t2
theorem yfs {xs ys:List Int}:((List.range (min xs.length ys.length)).all (fun j=>xs.getD j 0==ys.getD j 0)&&xs.length==ys.length)=decide (xs=ys):=by
  rw [Bool.eq_iff_iff,Bool.and_eq_true,List.all_eq_true,decide_eq_true_iff,beq_iff_eq]
  constructor
  · rintro ⟨h1,h2⟩
    refine List.ext_getElem h2 fun j a b=>?_
    have:=h1 j (List.mem_range.mpr (by lia))
    simpa [List.getD,a,b] using this
  · rintro rfl
    exact ⟨fun j _=>by simp,rfl⟩
noncomputable def rEqT (K:PySem.W.Frag) (neg:Bool):R2:=fun x y H Q=>∃(a b:Addr) (xs ys:List Int),x = .ref a∧y = .ref b∧SqT K H a (xs.map V.int)∧SqT K H b (ys.map V.int)∧Q (.bl (if neg then !decide (xs=ys) else decide (xs=ys))) H
theorem yf8 (hu:X.A.units<cLine):OpR X (compareOp .NotEq) (rEqT X.K true):=by
  intro pins s σ H x y v u Q I rx ry h
  obtain ⟨a,b,xs,ys,rfl,rfl,ha,hb,q⟩:=h
  cases rx;cases ry
  obtain ⟨us,r1,p1,z1⟩:=I.tuple ha
  obtain ⟨vs,r2,p2,z2⟩:=I.tuple hb
  refine SeqAt.RcNeAt.tuples (e:=fun j=>xs.getD j 0==ys.getD j 0) p1 p2 hu (yeO r1 r2) _ _ _ _ ?_
  have l1:=r1.length
  have l2:=r2.length
  rw [List.length_map] at l1 l2
  rw [List.size_toArray,List.size_toArray,←l1,←l2,yfs]
  exact ⟨.bl _,H,I,rfl,q⟩
end
end L2
end
section
-- text: ExtJ
set_option Elab.async false
set_option linter.all false
set_option maxRecDepth 100000
set_option maxHeartbeats 4000000
namespace L2
open PySem PySem.Spec PyProof.Rows
section
variable {X:Cx} {pos:Pos}
noncomputable def zhq (i j k:Nat) (ta:TA):TS:=fun D σ H=>ta σ H fun vs H1=>∃u v w,vs=[u,v,w]∧D.nx (((σ.set i (some u)).set j (some v)).set k (some w)) H1
theorem zdR {i j k:Nat} {x y z:Str} {a b c:Expr} {ta:TA} {px py pz pt:Pos} {kt k2 pt2} (hc:X.calm=true) (hN:X.N.Nodup) (hi:X.N[i]?=some x) (hj:X.N[j]?=some y) (hk:X.N[k]?=some z) (hij:i≠j∧i≠k∧j≠k)
    (hx:X.env.scope.names.lookup x=some .local) (hy:X.env.scope.names.lookup y=some .local) (hz:X.env.scope.names.lookup z=some .local) (ha:PA X [a,b,c] ta)
    (hw:swappedStores [.Tuple [.Name x px,.Name y py,.Name z pz] kt pt] (.Tuple [a,b,c] k2 pt2) X.env=pure (some [x,y,z]))
    (hs:swapsWithSole [.Tuple [.Name x px,.Name y py,.Name z pz] kt pt] (.Tuple [a,b,c] k2 pt2) pos.line X.env=pure false:=by rfl) :
    PS X (.Assign [.Tuple [.Name x px,.Name y py,.Name z pz] kt pt] (.Tuple [a,b,c] k2 pt2) pos) (zhq i j k ta):=by
  intro pins s σ H D I h
  rw [exec_Assign_arm]
  refine wpAny_bind (wpAny_standAt ?_)
  rw [hs]
  refine wpAny_bind (wpAny_pure ?_)
  rw [if_neg (by decide)]
  refine wpAny_bind (Tuple_ (thn (ha _ pins s σ H _ I h) fun us s1 ⟨vs,H1,I1,r1,q1⟩=>?_))
  obtain ⟨v1,v2,v3,e1,q1⟩:=q1
  subst e1
  obtain ⟨u1,u2,u3,rfl,r1',r2',r3'⟩:∃u1 u2 u3,us=[u1,u2,u3]∧RelV v1 u1∧RelV v2 u2∧RelV v3 u3:=by
    cases r1 with
    | cons p q =>
      cases q with
      | cons p' q' =>
        cases q' with
        | cons p'' q'' =>
          cases q''
          exact ⟨_,_,_,rfl,p,p',p''⟩
  refine wpAny_newObj_type ?_ (by show 3≤sizeLine;decide)
  have I2:Inv X pins σ H1 { s1 with heap:=s1.heap.push { cls:=.type "tuple",data:=.seq [u1,u2,u3].toArray } }:=I1.kept (t':=s1.toks) fun b o e=>Heap.get?_push_of_some _ e
  rw [hw]
  refine wpAny_bind (wpAny_pure ?_)
  show wpAny (model X.prog X.w) X.A (do rule "assign.swapped-stores";let items ←unpackItems (.ref s1.heap.objs.size) 3 none;assignInOrder [fun v=>bindName X.env z v,fun v=>bindName X.env y v,fun v=>bindName X.env x v] items.reverse;pure Flow.next) _ _ _
  refine wpAny_bind (wpAny_rule (wpAny_bind (unpackItems_tuple (items:=#[u1,u2,u3]) (I.ok.hd hc) (IsTup.new s1.heap _) fun h' hx'=>?_)))
  have I3:=I2.kept (h':=h') (t':=s1.toks) fun b o e=>hx' b o (Nat.ne_of_lt (Heap.lt_size e)) e
  show wpAny _ _ (assignInOrder [fun v=>bindName X.env z v,fun v=>bindName X.env y v,fun v=>bindName X.env x v] [u3,u2,u1] >>= fun _=>pure Flow.next) _ _ _
  refine wpAny_bind (assignInOrder_cons (wpAny_bindName (za3 I3 hN hk (.inl hz) r3' (fun s2 I4=>?_) (.inr hz))))
  refine assignInOrder_cons (wpAny_bindName (za3 I4 hN hj (.inl hy) r2' (fun s2 I5=>?_) (.inr hy)))
  refine assignInOrder_cons (wpAny_bindName (za3 I5 hN hi (.inl hx) r1' (fun s3 I6=>assignInOrder_nil (wpAny_pure ?_)) (.inr hx)))
  have e:((σ.set k (some v3)).set j (some v2)).set i (some v1)=((σ.set i (some v1)).set j (some v2)).set k (some v3):=by
    rw [List.set_comm (some v3) (some v2) (Ne.symm hij.2.2),List.set_comm (some v3) (some v1) (Ne.symm hij.2.1),List.set_comm (some v2) (some v1) (Ne.symm hij.1)]
  rw [e] at I6
  exact ⟨_,H1,I6,q1⟩
section
variable {K:PySem.W.Frag}
theorem zd2 (h:X.K=K):IxR X (rIxT K):=h ▸ yas
theorem ydg (h:X.K=K):OpR X (compareOp .NotIn) (rIn K true):=h ▸ zb8
end
end
end L2
end
section
-- text: ExtK
set_option Elab.async false
set_option linter.all false
set_option maxRecDepth 100000
set_option maxHeartbeats 4000000
namespace L2
open PySem PySem.Spec PyProof.Rows
open MeetsSeq MeetsSeq2 MeetsSeq3
theorem yb8:fillsNumberSlot (.type "tuple") "mul"=pure false :=
  PySem.fillsNumberSlot_seq (id:="tuple.__mul__") (r:=some (.builtin "tuple.__rmul__")) PySem.F.slot_tuple_mul.lookup (by decide +kernel) PySem.F.slot_tuple_rmul.lookup (by decide +kernel)
theorem ydl:seqRepeat? (.type "tuple")=pure (some (.builtin "tuple.__mul__")):=by
  unfold seqRepeat?
  rw [PySem.seqSlot_of (T:="tuple") (name:="__mul__") (id:="tuple.__mul__") PySem.F.slot_tuple_mul.lookup (by decide +kernel),PySem.seqSlot_of (T:="tuple") (name:="__rmul__") (id:="tuple.__rmul__") PySem.F.slot_tuple_rmul.lookup (by decide +kernel)]
  rfl
theorem zcD (a:Int) (t:Tok) (l:Addr) (items:Array Value) (n:Nat) (dd:Option Addr) (sl:Array (Option Value)) :
    Meets (Builtin.«int.__rmul__» ⟨[.int a t,.ref l],[]⟩) (fun _ R s=>s.heap.get? l=some { cls:=.type "tuple",dict:=dd,data:=.seq items n,slots:=sl }∧R (.ok (.ret Value.notImplemented)) s) :=
  .of_wp fun prog w A R s h=>by obtain ⟨hp,g,d,tk,os⟩:=s;obtain ⟨hl,h⟩:=h;wp_walk;exact ⟨_,rfl,h⟩
theorem zdK (l:Addr) (items:Array Value) (n:Nat) (dd:Option Addr) (sl:Array (Option Value)) (u:Tok) :
    Meets (Builtin.«tuple.__mul__» ⟨[.ref l,.int 1 u],[]⟩) (fun _ R s=>s.heap.get? l=some { cls:=.type "tuple",dict:=dd,data:=.seq items n,slots:=sl }∧R (.ok (.ret (.ref l))) s) :=
  .of_wp fun prog w A R s h=>by
    obtain ⟨hp,g,d,tk,os⟩:=s;obtain ⟨hl,h⟩:=h
    wp_walk
    exact ⟨_,rfl,h⟩
theorem yd1 (l:Addr) (items:Array Value) (n:Nat) (dd:Option Addr) (sl:Array (Option Value)) (u:Tok) (hne:items.isEmpty=false) :
    Meets (Builtin.«tuple.__mul__» ⟨[.ref l,.int 0 u],[]⟩) (fun _ R s=>s.heap.get? l=some { cls:=.type "tuple",dict:=dd,data:=.seq items n,slots:=sl }∧R (.ok (.ret (.ref s.heap.objs.size))) { s with heap:=s.heap.push { cls:=.type "tuple",data:=.seq #[] } }) :=
  .of_wp fun prog w A R s h=>by
    obtain ⟨hp,g,d,tk,os⟩:=s;obtain ⟨hl,h⟩:=h
    have h0:(items.isEmpty||((0:Int)==1))=false:=by rw [hne];rfl
    have h1:(decide ((0:Int)≤0)||items.isEmpty)=true:=rfl
    wp_walk
    exact ⟨_,rfl,h⟩
theorem zdH (l:Addr) (items:Array Value) (n:Nat) (dd:Option Addr) (sl:Array (Option Value)) (x:Int) (u:Tok) (hne:items.isEmpty=false) (h2:2≤x) (h3:x<2^63) (hz:items.size*x≤(sizeLine:Int)) :
    Meets (Builtin.«tuple.__mul__» ⟨[.ref l,.int x u],[]⟩) (fun _ R s=>s.heap.get? l=some { cls:=.type "tuple",dict:=dd,data:=.seq items n,slots:=sl }∧R (.ok (.ret (.ref s.heap.objs.size))) { s with heap:=s.heap.push { cls:=.type "tuple",data:=.seq ((List.replicate x.toNat items).foldl (·++·) #[]) } }) :=
  .of_wp fun prog w A R s h=>by
    obtain ⟨hp,g,d,tk,os⟩:=s;obtain ⟨hl,h⟩:=h
    have g0:(decide (x < -(2^63))||decide (x≥2^63))=false:=by simp;lia
    have g1:(items.isEmpty||(x==1))=false:=by rw [hne];simp;lia
    have g2:(decide (x≤0)||items.isEmpty)=false:=by rw [hne];simp;lia
    have hcap:¬ items.size*x>(2^63-1)/8:=by
      have:((sizeLine:Nat):Int)≤(2^63-1)/8:=by decide
      lia
    have hl2:Builtin.Tuple.tupleTooMany (items.size*x)=false:=by unfold Builtin.Tuple.tupleTooMany;simp;lia
    wp_walk
    rw [if_neg (by rw [g0];exact Bool.false_ne_true)]
    wp_walk
    rw [if_neg (by rw [g1];exact Bool.false_ne_true)]
    wp_walk
    rw [if_neg (by rw [g2];exact Bool.false_ne_true)]
    dsimp only
    rw [if_neg hcap,if_neg (by rw [hl2];exact Bool.false_ne_true)]
    have hs:((List.replicate x.toNat items).foldl (·++·) #[]).size≤sizeLine:=by
      have e:∀(k:Nat) (acc:Array Value),((List.replicate k items).foldl (·++·) acc).size=acc.size+k*items.size:=by
        intro k
        induction k with
        | zero=>intro acc;simp
        | succ k ih=>intro acc;rw [List.replicate_succ,List.foldl_cons,ih,Array.size_append,Nat.succ_mul];lia
      rw [e]
      have h4:(items.size:Int)*x=((x.toNat*items.size:Nat):Int):=by rw [Int.natCast_mul,Int.toNat_of_nonneg (by lia),Int.mul_comm]
      rw [h4] at hz
      simp
      lia
    unfold Builtin.Tuple.tupleExact
    refine wpAny_bind (wpAny_newObj_type ?_ hs)
    exact wpAny_pure ⟨_,rfl,h⟩
section
variable {X:Cx}
noncomputable def zgV (K:PySem.W.Frag):R2:=fun x y H Q=>∃(a:Addr) (k:Int) (xs:List V),x = .ref a∧y = .int k∧SqT K H a xs∧xs≠[]∧0≤k∧k<2^63∧xs.length*k.toNat≤sizeLine∧
  (k=1→Q (.ref a) H)∧(k≠1→∀p,H p=none→Q (.ref p) (upd H p (.tup (List.replicate k.toNat xs).flatten)))
theorem ygA:OpR X (binaryOp .Mult) (zgV X.K):=by
  intro pins s σ H x y v u Q I rx ry h
  obtain ⟨a,k,xs,rfl,rfl,ha,hne,h0,h1,hz,q1,q2⟩:=h
  cases rx
  obtain ⟨t,rfl⟩:=ry
  obtain ⟨its,r,⟨⟨cls,dd,data,sl⟩,ho,hc,n,hd⟩,z⟩:=I.tuple ha
  simp only at hc hd
  subst hc hd
  have hl:=r.length
  have hine:its.toArray.isEmpty=false:=by
    cases its with
    | nil=>cases r;exact absurd rfl hne
    | cons _ _=>rfl
  refine wpAny_binaryOp_repeat_ref (T:="tuple") (U:="int") (by decide) ⟨_,ho,rfl⟩ (fun s'=>typeIs_int s' k t) yb8 F.fills_int_mul F.slot_int_rmul ydl F.slot_int_index.lookup
    (call_meets F.slot_int_rmul (typeIs_int s k t) F.entry_int_rmul (F.args_int_rmul_2 _ _) (zcD k t a its.toArray n dd sl) ⟨ho,rfl,⟨_,ho,rfl⟩,?_⟩)
  by_cases e1:k=1
  · subst e1
    exact call_meets PySem.F.slot_tuple_mul ⟨_,ho,rfl⟩ PySem.F.entry_tuple_mul (PySem.F.args_tuple_mul_2 _ _) (zdK a its.toArray n dd sl t) ⟨ho,⟨.ref a,H,I,rfl,q1 rfl⟩⟩
  · by_cases e0:k=0
    · subst e0
      refine call_meets PySem.F.slot_tuple_mul ⟨_,ho,rfl⟩ PySem.F.entry_tuple_mul (PySem.F.args_tuple_mul_2 _ _) (yd1 a its.toArray n dd sl t hine) ⟨ho,?_⟩
      exact ⟨.ref s.heap.objs.size,_,I.laid (t':=s.toks) (o:=.tup []) (fun b ob q=>Heap.get?_push_of_some _ q) (Nat.le_refl _) ⟨Nat.zero_le _,[],.nil,IsTup.new _ _⟩,rfl,q2 e1 _ (I.hok.fresh (Nat.le_refl _))⟩
    · have hz2:(its.toArray.size:Int)*k≤(sizeLine:Int):=by
        rw [List.size_toArray,←hl]
        have h4:(xs.length:Int)*k=((xs.length*k.toNat:Nat):Int):=by rw [Int.natCast_mul,Int.toNat_of_nonneg h0]
        rw [h4];lia
      refine call_meets PySem.F.slot_tuple_mul ⟨_,ho,rfl⟩ PySem.F.entry_tuple_mul (PySem.F.args_tuple_mul_2 _ _) (zdH a its.toArray n dd sl k t hine (by lia) h1 hz2) ⟨ho,?_⟩
      have hnew:List.foldl (fun x1 x2=>x1++x2) #[] (List.replicate k.toNat its.toArray)=(List.replicate k.toNat its).flatten.toArray:=by
        have:=ycA its k.toNat []
        rw [List.nil_append] at this
        exact this
      rw [hnew]
      refine ⟨.ref s.heap.objs.size,_,I.laid (t':=s.toks) (o:=.tup (List.replicate k.toNat xs).flatten) (fun b ob q=>Heap.get?_push_of_some _ q) (Nat.le_refl _) ⟨by rw [zfd,Nat.mul_comm];exact hz,_,r.rep k.toNat,IsTup.new _ _⟩,rfl,q2 e1 _ (I.hok.fresh (Nat.le_refl _))⟩
theorem ydO (l b:Addr) (items2:Array Value) (n n2:Nat) (dd dd2:Option Addr) (sl sl2:Array (Option Value)) :
    Meets (Builtin.«tuple.__add__» ⟨[.ref l,.ref b],[]⟩) (fun _ R s=>s.heap.get? l=some { cls:=.type "tuple",dict:=dd,data:=.seq #[] n,slots:=sl }∧s.heap.get? b=some { cls:=.type "tuple",dict:=dd2,data:=.seq items2 n2,slots:=sl2 }∧R (.ok (.ret (.ref b))) s) :=
  .of_wp fun prog w A R s h=>by
    obtain ⟨hp,g,d,tk,os⟩:=s;obtain ⟨hl,hb,h⟩:=h
    have hsub:isSubtype (.type "tuple") (.type "tuple")=pure true:=by rw [isSubtype_type];kernel_rfl
    wp_walk
    exact ⟨_,rfl,h⟩
noncomputable def yhl (K:PySem.W.Frag):R2:=fun x y H Q=>∃(a b:Addr) (xs ys:List V),x = .ref a∧y = .ref b∧SqT K H a xs∧SqT K H b ys∧xs.length+ys.length≤sizeLine∧
  (xs=[]→Q (.ref b) H)∧(xs≠[]→ys=[]→Q (.ref a) H)∧(xs≠[]→ys≠[]→∀p,H p=none→Q (.ref p) (upd H p (.tup (xs++ys))))
theorem yfj:OpR X (binaryOp .Add) (yhl X.K):=by
  intro pins s σ H x y v u Q I rx ry h
  obtain ⟨a,b,xs,ys,rfl,rfl,ha,hb,hz,q0,q1,q2⟩:=h
  by_cases hx:xs=[]
  · subst hx
    cases rx
    cases ry
    obtain ⟨its,r1,⟨⟨cls,dd,data,sl⟩,ho,hc,n,hd⟩,_⟩:=I.tuple ha
    obtain ⟨its2,r2,⟨⟨cls2,dd2,data2,sl2⟩,ho2,hc2,n2,hd2⟩,_⟩:=I.tuple hb
    simp only at hc hd hc2 hd2
    subst hc hd hc2 hd2
    cases r1
    exact concat_meets ⟨_,ho,rfl⟩ ⟨_,ho2,rfl⟩ noFill_tuple_add seq_tuple_add PySem.F.slot_tuple_add PySem.F.entry_tuple_add (PySem.F.args_tuple_add_2 _ _) (ydO a b its2.toArray n n2 dd dd2 sl sl2) ⟨ho,ho2,⟨.ref b,H,I,rfl,q0 rfl⟩⟩
  · exact zgC pins s σ H _ _ v u Q I rx ry ⟨a,b,xs,ys,rfl,rfl,ha,hb,hx,hz,q1 hx,q2 hx⟩
end
end L2
end
section
-- text: ExtL
set_option Elab.async false
set_option linter.all false
set_option maxRecDepth 100000
set_option maxHeartbeats 4000000
namespace L2
open PySem PySem.Spec PyProof.Rows
end L2
end
section
-- text: ExtM
set_option Elab.async false
set_option linter.all false
set_option maxRecDepth 100000
set_option maxHeartbeats 4000000
namespace L2
open PySem PySem.Spec PyProof.Rows
theorem zca:∀ {ns:List Int} {us:List Value},Vals (ns.map V.int) us→IntsAre us ns
  | [],[],_=>.nil
  | [],_::_,r=>by cases r
  | _::_,[],r=>by cases r
  | n::ns,u::us,.cons r t=>by
    obtain ⟨tk,rfl⟩:=r
    exact .cons n tk (zca t)
theorem zbv:∀ {us:List Value} {ns:List Int},IntsAre us ns→Vals (ns.map V.int) us
  | _,_,.nil=>.nil
  | _,_,.cons n t h=>.cons ⟨t,rfl⟩ (zbv h)
section
variable {X:Cx}
noncomputable def zgx (K:PySem.W.Frag):List V→Hp→VK→Prop:=fun vs H Q=>∃(a:Addr) (ns:List Int),vs=[.ref a]∧SqL K H a (ns.map V.int)∧ns.length<64∧
  ∀(l:Addr) (ns':List Int),H l=none→ns'.Perm ns→ns'.Pairwise (·≤·)→Q (.ref l) (upd H l (.lst (ns'.map V.int)))
theorem ydY:ybE X (.builtin "sorted") (zgx X.K):=by
  intro pins s σ H xs us Q I r h
  obtain ⟨a,ns,rfl,ha,hl,q⟩:=h
  obtain ⟨u,rfl,rx⟩:=yb1 r
  cases rx
  obtain ⟨its,r1,p1,z1⟩:=I.list ha
  have hlen:=r1.length
  rw [List.length_map] at hlen z1
  refine sorted_ints p1.isList (zca r1) (by lia) fun out ns' a1 a2 a3=>?_
  obtain ⟨e,he⟩:=sortedAll_at s.heap its out
  have r2:Vals (ns'.map V.int) out.toList:=zbv a1
  refine ⟨.ref (s.heap.objs.size+1),_,I.laid (a:=s.heap.objs.size+1) (t':=s.toks) (o:=.lst (ns'.map V.int)) (fun b ob e=>sortedAll_old e) (Nat.le_succ _) ⟨?_,out.toList,e,r2,?_⟩,rfl,q _ ns' (I.hok.fresh (Nat.le_succ _)) a2 a3⟩
  · rw [List.length_map,a2.length_eq];exact z1
  · rw [he]
end
end L2
end
section
-- text: ExtN
set_option Elab.async false
set_option linter.all false
set_option maxRecDepth 100000
set_option maxHeartbeats 4000000
namespace L2
open PySem PyProof.Rows
section
variable {X:Cx}
theorem zd6 {xs:List V} {us:List Value} (h:Vals xs us) {i:Nat} (hi:i<us.toArray.size):∃x,xs[i]?=some x∧RelV x us.toArray[i]:=by
  have hl:=h.length
  rw [List.size_toArray] at hi
  have hx:xs[i]?=some (xs[i]'(by lia)):=List.getElem?_eq_getElem (by lia)
  have hu:us[i]?=some (us[i]):=List.getElem?_eq_getElem hi
  exact ⟨_,hx,h.getR i _ _ hx hu⟩
end
end L2
end
section
-- text: ExtO
set_option Elab.async false
set_option linter.all false
set_option maxRecDepth 100000
set_option maxHeartbeats 4000000
namespace L2
open PySem PyProof.Rows
noncomputable def Rise (xs:Array Nat):Prop:=xs.toList.Pairwise (· < ·)
theorem ycf {xs:Array Nat} (h:Rise xs) {i j:Nat} (hij:i<j) (hj:j<xs.size):xs[i]'(by lia)<xs[j]:=by
  have:=List.pairwise_iff_getElem.mp h i j (by simpa using (by lia:i<xs.size)) (by simpa using hj) hij
  simpa using this
theorem ycX {xs:Array Nat} (h:Rise xs) (j:Nat):∀(fuel lo hi:Nat),hi-lo≤fuel→lo≤hi→hi≤xs.size→
    (∀i (hi':i<xs.size),i<lo→xs[i]<j)→(∀i (hi':i<xs.size),hi≤i→j≤xs[i])→
    SetTable.below.go xs j fuel lo hi≤xs.size∧(∀i (hi':i<xs.size),i<SetTable.below.go xs j fuel lo hi→xs[i]<j)∧(∀i (hi':i<xs.size),SetTable.below.go xs j fuel lo hi≤i→j≤xs[i])
  | 0,lo,hi,hf,hl,hs,h1,h2=>by
    have e:lo=hi:=by lia
    subst e
    exact ⟨hs,h1,h2⟩
  | fuel+1,lo,hi,hf,hl,hs,h1,h2=>by
    unfold SetTable.below.go
    by_cases c:lo<hi
    · rw [if_pos c]
      have hm:(lo+hi)/2<xs.size:=by lia
      have eg:xs.getD ((lo+hi)/2) j=xs[(lo+hi)/2]:=by simp [Array.getD,hm]
      dsimp only
      rw [eg]
      by_cases d:xs[(lo+hi)/2]<j
      · rw [if_pos d]
        refine ycX h j fuel _ _ (by lia) (by lia) hs (fun i hi' hlt=>?_) h2
        by_cases e:i=(lo+hi)/2
        · subst e;exact d
        · exact Nat.lt_trans (ycf h (by lia) hm) d
      · rw [if_neg d]
        refine ycX h j fuel _ _ (by lia) (by lia) (by lia) h1 fun i hi' hge=>?_
        by_cases e:i=(lo+hi)/2
        · subst e;lia
        · have:=ycf h (show (lo+hi)/2<i by lia) hi'
          lia
    · rw [if_neg c]
      have e:lo=hi:=by lia
      subst e
      exact ⟨hs,h1,h2⟩
theorem zbZ {xs:Array Nat} (h:Rise xs) (j:Nat):SetTable.below xs j≤xs.size∧(∀i (hi':i<xs.size),i<SetTable.below xs j→xs[i]<j)∧(∀i (hi':i<xs.size),SetTable.below xs j≤i→j≤xs[i]) :=
  ycX h j xs.size 0 xs.size (by lia) (by lia) (Nat.le_refl _) (fun i _ hi=>absurd hi (Nat.not_lt_zero _)) (fun i hi' hge=>absurd hi' (by lia))
theorem zdO {xs:Array Nat} (h:Rise xs) {j:Nat} (hn:xs[SetTable.below xs j]?≠some j):Rise (SetTable.insertAt xs (SetTable.below xs j) j):=by
  obtain ⟨h1,h2,h3⟩:=zbZ h j
  generalize SetTable.below xs j=r at *
  unfold Rise
  rw [SetTable.toList_insertAt]
  have hd:∀y∈xs.toList.drop r,j<y:=by
    intro y hy
    obtain ⟨i,hi,e⟩:=List.getElem_of_mem hy
    rw [List.getElem_drop] at e
    have hi2:r+i<xs.size:=by simp at hi;lia
    have e2:y=xs[r+i]:=by rw [←e];simp
    have h4:=h3 (r+i) hi2 (by lia)
    have h5:r<xs.size:=by lia
    have h6:=h3 r h5 (Nat.le_refl _)
    have h7:xs[r]≠j:=fun q=>hn (by rw [Array.getElem?_eq_getElem h5,q])
    by_cases c:i=0
    · subst c;rw [e2];simp only [Nat.add_zero];lia
    · have:=ycf h (show r<r+i by lia) hi2
      rw [e2];lia
  have ht:∀y∈xs.toList.take r,y<j:=by
    intro y hy
    obtain ⟨i,hi,e⟩:=List.getElem_of_mem hy
    rw [List.getElem_take] at e
    have hi2:i<xs.size:=by simp at hi;lia
    have e2:y=xs[i]:=by rw [←e];simp
    rw [e2]
    exact h2 i hi2 (by simp at hi;lia)
  refine List.pairwise_append.mpr ⟨List.Pairwise.sublist (List.take_sublist _ _) h,List.pairwise_cons.mpr ⟨hd,List.Pairwise.sublist (List.drop_sublist _ _) h⟩,fun a ha b hb=>?_⟩
  rcases List.mem_cons.mp hb with rfl|hb
  · exact ht a ha
  · exact Nat.lt_trans (ht a ha) (hd b hb)
theorem ydd {t:SetTable} {f:Nat→Int} {h:Int}:∀(fuel:Nat) (p:SetTable.Probe) {j:Nat} {d:Option Nat},(∀e,p.dummy=some e→t.slot e = .dummy)→SetTable.probe.go t f h fuel p=some (.empty j d)→t.slot j = .empty∧∀e,d=some e→t.slot e = .dummy
  | 0,p,j,d,_,e=>by cases e
  | fuel+1,p,j,d,hp,e=>by
    unfold SetTable.probe.go at e
    have adv:∀q:SetTable.Probe,(t.advance q).dummy=q.dummy:=fun q=>by unfold SetTable.advance;split <;> rfl
    cases hs:t.slot p.j with
    | empty=>rw [hs] at e;cases e;exact ⟨hs,hp⟩
    | dummy =>
      rw [hs] at e
      refine ydd fuel _ (fun x hx=>?_) e
      rw [adv] at hx;cases hx;exact hs
    | live i =>
      rw [hs] at e
      dsimp only at e
      split at e
      · cases e
      · refine ydd fuel _ (fun x hx=>?_) e
        rw [adv] at hx;exact hp x hx
theorem yeK {t:SetTable} {h:Int} {j:Nat} {b:Bool} (e:t.freeSlot h=some (j,b)):∀i,t.slot j≠.live i:=by
  unfold SetTable.freeSlot at e
  split at e
  · rename_i j' d hm
    obtain ⟨h1,h2⟩:=ydd (t:=t) _ _ (fun e he=>by cases he) hm
    cases e
    intro i
    cases d with
    | none=>show t.slot j'≠_;rw [h1];exact fun q=>nomatch q
    | some d=>show t.slot d≠_;rw [h2 d rfl];exact fun q=>nomatch q
  · cases e
theorem zeO {t:SetTable} {j:Nat} (h:∀i,t.slot j≠.live i):t.place[SetTable.below t.place j]?≠some j:=fun e=>by
  refine h (SetTable.below t.place j) ?_
  unfold SetTable.slot
  dsimp only
  rw [if_pos (by rw [e];exact beq_self_eq_true _)]
structure TabG (led:Bool) (t:SetTable):Prop where
  led:t.led=led
  rise:t.plain=true→Rise t.place
theorem TabG.standIn {led:Bool} {t:SetTable} (h:TabG led t) (n:Nat):TabG led (t.standIn n):=⟨h.led,fun e=>by cases e⟩
theorem yfH {led:Bool} {t:SetTable} (h:TabG led t) (es:Array (Int×Value)) (k:Int) (x:Value):TabG led (layNew t es k x).2.1:=by
  unfold layNew
  split
  · rename_i slot wasDummy he
    dsimp only
    have hp:TabG led (t.put slot).1:=by
      refine ⟨h.led,fun e=>?_⟩
      exact zdO (h.rise e) (zeO (yeK he))
    unfold SetTable.orStandIn
    split
    · exact hp
    · exact hp.standIn _
  · exact h.standIn _
theorem zeu {led:Bool} {t:SetTable} (h:TabG led t) (es:Array (Int×Value)) (n:Nat):TabG led (relayAll t es n).2.1:=by
  unfold relayAll
  split
  · rename_i t' order he
    have ht:TabG led t':=by
      unfold SetTable.relaid SetTable.laid at he
      simp only [Option.bind_eq_bind,Option.bind_eq_some_iff] at he
      obtain ⟨owner,_,he⟩:=he
      cases he
      refine ⟨h.led,fun _=>?_⟩
      unfold Rise
      dsimp only
      rw [List.pairwise_map,List.pairwise_filterMap]
      refine List.Pairwise.imp ?_ List.pairwise_lt_range
      intro a b hab x hx y hy
      cases h1:owner.getD a none with
      | none=>rw [h1] at hx;cases hx
      | some u =>
        cases h2:owner.getD b none with
        | none=>rw [h2] at hy;cases hy
        | some v=>rw [h1] at hx;rw [h2] at hy;cases hx;cases hy;exact hab
    dsimp only
    split
    · exact ht
    · exact h.standIn _
  · exact h.standIn _
section
variable {prog:Program} {w:World} {A:Around} {E:Value→Shared→Prop} {s:Shared}
noncomputable abbrev ya0 (w:World):Bool:=w.params.followText "set-order"
noncomputable def SetG (w:World) (prog:Program) (h:Heap) (a:Addr) (S:Int→Bool) (n:Nat):Prop :=
  ∃o es ep t,h.get? a=some o∧o.ExactSet∧o.data = .set es ep t∧ElemsOf (intKind prog w) es.toList∧(∀k,S k=true↔∃e∈es.toList,(intKind prog w).is k e.2=true)
    ∧es.size<scanBound∧t.fits es.size=true∧es.size=n∧TabG (!ya0 w) t
theorem ydy {h:Heap} {a:Addr} {o:Obj} {es:Array (Int×Value)} {ep:Nat} {t:SetTable} (ho:h.get? a=some o) (hd:o.data = .set es ep t) (es':Array (Int×Value)) (t':SetTable) :
    (h.update a (Obj.putSet es' t')).get? a=some { o with data:=.set es' (ep+1) t' }:=by
  have:=Heap.get?_update_self (Obj.putSet es' t') ho (by rw [putSet_of es' t' hd];rfl)
  rw [putSet_of es' t' hd] at this;exact this
theorem yho {a:Addr} {S:Int→Bool} {n:Nat} {k:Int} {tk:Tok} {Q:Bool→Shared→Prop} (hS:SetG w prog s.heap a S n) (hroom:n+1<scanBound)
    (h:∀h' b,Heap.SameBut a s.heap h'→SetG w prog h' a (fun k'=>S k'||decide (k'=k)) (if S k then n else n+1)→Q b { s with heap:=h' }) :
    wpAny (model prog w) A (setAddHashed a (.int k tk) ((intKind prog w).hash k)) Q E s:=by
  obtain ⟨o,es,ep,t,ho,hex,hd,hel,hmem,hb,hf,hn,hG⟩:=hS
  have hkey:(intKind prog w).is k (.int k tk)=true:=intKind_is _ _ _ _
  have hsc:(Value.int k tk).scannable=true:=rfl
  unfold setAddHashed setAddHashedIn
  refine wpAny_holding (wpAny_bind (wpAny_setState_of ho hd hf ?_))
  dsimp only
  rw [byScan_of hsc hb hel,if_pos rfl]
  unfold setAddByScan
  refine wpAny_bind (wpAny_bind (wpAny_rule (wpAny_bind (wpAny_setScan_of hkey ho hd hf hel ?_))))
  cases hr:List.findIdx? (fun e=>(intKind prog w).is k e.2) es.toList with
  | some j =>
    obtain ⟨hj,hpj,_⟩:=List.findIdx?_eq_some_iff_getElem.mp hr
    have hSk:S k=true:=(hmem k).mpr ⟨es.toList[j],List.getElem_mem hj,hpj⟩
    refine wpAny_pure (wpAny_pure ?_)
    have h1:=h s.heap false (Heap.SameBut.refl a s.heap) ⟨o,es,ep,t,ho,hex,hd,hel,fun k'=>by
      rw [Bool.or_eq_true,decide_eq_true_eq,←hmem k']
      exact ⟨fun hk=>hk.elim id (fun e=>e ▸ hSk),.inl⟩,hb,hf,by rw [hSk];exact hn,hG⟩
    exact h1
  | none =>
    have hSk:S k=false:=by
      cases hk:S k with
      | false=>rfl
      | true =>
        obtain ⟨e,he,hp⟩:=(hmem k).mp hk
        have:=List.findIdx?_eq_none_iff.mp hr e he
        rw [hp] at this;cases this
    have hperm:=layNew_perm t es ((intKind prog w).hash k) (.int k tk)
    have hfits:=layNew_fits t es ((intKind prog w).hash k) (.int k tk)
    have hG1:=yfH hG es ((intKind prog w).hash k) (.int k tk)
    dsimp only
    generalize layNew t es ((intKind prog w).hash k) (.int k tk)=L at hperm hfits hG1 ⊢
    obtain ⟨es1,t1,wasDummy,gave⟩:=L
    dsimp only at hperm hfits hG1 ⊢
    rw [Array.toList_push] at hperm
    have hel1:ElemsOf (intKind prog w) es1.toList:=(hel.push hkey hsc).perm hperm
    have hmem1:∀k',(S k'||decide (k'=k))=true↔∃e∈es1.toList,(intKind prog w).is k' e.2=true:=mem_push_iff hkey hmem hperm
    have hsz1:es1.size=n+1:=by rw [←Array.length_toList,hperm.length_eq,List.length_append,Array.length_toList,hn];rfl
    have hz:es1.size≤sizeLine:=fits_of_scanBound (by lia)
    have en:(if S k=true then n else n+1)=n+1:=by rw [hSk];rfl
    rw [en] at h
    have fin:∀t2:SetTable,TabG (!ya0 w) t2→t2.fits es1.size=true→wpAny (model prog w) A (storeSet a es1 t2 >>= fun _=>if (!wasDummy&&t2.tooFull)=true then
          (match (relayAll t2 es1 (SetTable.grown es1.size)).2.2 with|true=>rule "set.scan.the-table-gave-way"|false=>pure ()) >>= fun _=>storeSet a (relayAll t2 es1 (SetTable.grown es1.size)).1 (relayAll t2 es1 (SetTable.grown es1.size)).2.1 >>= fun _=>pure (some true)
        else pure (some true)) (fun r s'=>∃h',s'={ s with heap:=h' }∧r=some true∧Heap.SameBut a s.heap h'∧SetG w prog h' a (fun k'=>S k'||decide (k'=k)) (n+1)) E s:=by
      intro t2 g2 f2
      refine wpAny_bind (wpAny_storeSet_of ho hd ?_ hz)
      have o1:=ydy ho hd es1 t2
      have b1:=Heap.SameBut.update s.heap a (Obj.putSet es1 t2)
      split
      · have hp:=relayAll_perm t2 es1 (SetTable.grown es1.size)
        have hfr:=relayAll_fits t2 es1 (SetTable.grown es1.size)
        have g3:=zeu g2 es1 (SetTable.grown es1.size)
        generalize relayAll t2 es1 (SetTable.grown es1.size)=Rl at hp hfr g3 ⊢
        obtain ⟨es2,t3,gave2⟩:=Rl
        dsimp only at hp hfr g3 ⊢
        have hsz:es2.size=es1.size:=by rw [←Array.length_toList,hp.length_eq,Array.length_toList]
        have rest:wpAny (model prog w) A (storeSet a es2 t3 >>= fun _=>pure (some true)) (fun r s'=>∃h',s'={ s with heap:=h' }∧r=some true∧Heap.SameBut a s.heap h'∧SetG w prog h' a (fun k'=>S k'||decide (k'=k)) (n+1)) E { s with heap:=s.heap.update a (Obj.putSet es1 t2) }:=by
          refine wpAny_bind (wpAny_storeSet_of o1 rfl ?_ (by lia))
          exact wpAny_pure ⟨_,rfl,rfl,b1.trans (Heap.SameBut.update _ a _),_,es2,_,t3,ydy o1 rfl es2 t3,hex,rfl,hel1.perm hp,fun k'=>(hmem1 k').trans ⟨fun ⟨e,he,q⟩=>⟨e,hp.mem_iff.mpr he,q⟩,fun ⟨e,he,q⟩=>⟨e,hp.mem_iff.mp he,q⟩⟩,by lia,hfr,by lia,g3⟩
        cases gave2
        · exact wpAny_bind (wpAny_pure rest)
        · exact wpAny_bind (wpAny_rule rest)
      · exact wpAny_pure ⟨_,rfl,rfl,b1,_,es1,_,t2,o1,hex,rfl,hel1,hmem1,by lia,f2,hsz1,g2⟩
    have hgw:∀(b:Bool) {s₁:Shared} {Q':Unit→Shared→Prop},Q' () s₁→wpAny (model prog w) A (match b with|true=>rule "set.scan.the-table-gave-way"|false=>pure ()) Q' E s₁ :=
      fun b s₁ Q' hq=>by cases b <;> first|exact wpAny_pure hq|exact wpAny_rule hq
    refine wpAny_bind (hgw gave ?_)
    split
    · refine wpAny_bind ?_
      rw [hashByValue_scannable 8 hsc]
      refine wpAny_pure ?_
      refine thn (fin t1 hG1 hfits) fun r s' ⟨h',e1,e2,b,g⟩=>?_
      subst e1;subst e2
      exact wpAny_pure (h h' true b g)
    · refine wpAny_bind (wpAny_pure ?_)
      refine thn (fin t1 hG1 hfits) fun r s' ⟨h',e1,e2,b,g⟩=>?_
      subst e1;subst e2
      exact wpAny_pure (h h' true b g)
theorem SetG.at {h h':Heap} {a:Addr} {S:Int→Bool} {n:Nat} (x:SetG w prog h a S n) (e:∀o,h.get? a=some o→h'.get? a=some o):SetG w prog h' a S n:=by
  obtain ⟨o,es,ep,t,ho,r⟩:=x
  exact ⟨o,es,ep,t,e o ho,r⟩
theorem SetG.congr {h:Heap} {a:Addr} {S S':Int→Bool} {n n':Nat} (x:SetG w prog h a S n) (e:∀k,S k=S' k) (en:n=n'):SetG w prog h a S' n':=by
  have:S=S':=funext e
  subst this;subst en;exact x
section
variable {R:Result→Shared→Prop} {I:Addr} {fp wr:List Addr} {G:Array GenState→Array GenState→Prop} {n:Nat} {P:Nat→Value→Prop} {St:Nat→Shared→Prop}
theorem yg3 (W:WalksS prog w A.in1 I fp wr G n P St) (S:Addr) (hSf:S∉fp) (val:Nat→Int) (hval:∀i v,P i v→∃t,v = .int (val i) t) (hb:n+1<scanBound):∀(k i:Nat) (s:Shared),n-i=k→i≤n→St i s→
      SetG w prog s.heap S (fun k'=>(firstMet val i).any (·==k')) (firstMet val i).length→
      (∀s',Moved (S::wr) G s s'→SetG w prog s'.heap S (fun k'=>(firstMet val n).any (·==k')) (firstMet val n).length→R (.ok (.ret .none)) s')→
      codeAny (model prog w) A (.builtin "set.update.loop" ⟨[.ref S,.ref I],[]⟩) R s:=by
  have hSw:S∉wr:=fun h=>hSf (W.sub _ h)
  have hsub:∀b∈wr,b∈S::wr:=fun b hb=>List.mem_cons_of_mem _ hb
  intro k
  induction k with
  | zero =>
    intro i s hk hi hst hS hR
    obtain rfl:i=n:=by lia
    refine codeAny_builtin F.entry_set_update_loop ?_
    rw [Around.under_plainId F.plain_set_update_loop _]
    show wpAny _ A.in1 (pyNext (.ref I) >>= _) _ _ s
    refine wpAny_bind (W.done s _ _ hst fun s' hm=>?_)
    exact wpAny_pure (hR s' (hm.mono hsub) (hS.at fun o e=>hm.heap S o hSw e))
  | succ k ih =>
    intro i s hk hi hst hS hR
    have hlt:i<n:=by lia
    refine codeAny_builtin F.entry_set_update_loop ?_
    rw [Around.under_plainId F.plain_set_update_loop _]
    show wpAny _ A.in1 (pyNext (.ref I) >>= _) _ _ s
    refine wpAny_bind (W.item i s _ _ hlt hst fun v s' hP hst' hm=>?_)
    obtain ⟨t,rfl⟩:=hval i v hP
    have hS':=hS.at (h':=s'.heap) fun o e=>hm.heap S o hSw e
    show wpAny _ A.in1 (holding [Value.int (val i) t] (setAdd S (.int (val i) t)) >>= _) _ _ s'
    refine wpAny_bind (wpAny_holding ?_)
    unfold setAdd
    refine wpAny_holding (wpAny_bind ((intKind prog w).pyHash (k:=val i) (intKind_is _ _ _ _) ?_))
    have hroom:(firstMet val i).length+1<scanBound:=by have:=firstMet_length_le val i;lia
    refine yho (s:={ s' with toks:=s'.toks+1 }) hS' hroom fun h' b hsb hS2=>?_
    have hSi:SetG w prog h' S (fun k'=>(firstMet val (i+1)).any (·==k')) (firstMet val (i+1)).length:=hS2.congr (fun k'=>by rw [firstMet_succ,step_any]) (by rw [firstMet_succ,step_length])
    refine wpAny_pure ⟨plainId_quiet F.plain_set_update_loop _,ih (i+1) _ (by lia) hlt (W.frame _ s' _ _ hst' (Nat.le_succ _) fun b hb o e=>?_) hSi fun s'' hm'' hS''=>?_⟩
    · rw [hsb.2 b (fun h:b=S=>hSf (by rw [←h];exact hb))];exact e
    · refine hR s'' (Moved.trans W.gtrans ((hm.mono hsub).then_heap (Nat.le_succ _) fun b o hb e=>?_) hm'') hS''
      rw [hsb.2 b (fun h:b=S=>hb (by rw [h];exact List.mem_cons_self))];exact e
end
noncomputable abbrev ya8 (w:World):Obj:={ cls:=.type "set",dict:=none,data:=.set #[] 0 (.fresh 0 0 (!ya0 w)) }
theorem zfN {h:Heap} {a:Addr} (e:h.get? a=some (ya8 w)):SetG w prog h a (fun _=>false) 0 :=
  ⟨_,#[],0,_,e,⟨rfl,rfl,rfl⟩,rfl,fun e he=>by simp at he,fun k=>by simp,by decide,by rfl,rfl,⟨rfl,fun _=>List.Pairwise.nil⟩⟩
theorem zeZ (a:Value) {Q₁:Value→Shared→Prop} (h:Q₁ (.ref s.heap.objs.size) { s with heap:=s.heap.push (ya8 w) }) :
    codeAny (model prog w) A (.call (.builtin "set.__new__") ⟨[.type "set",a],[]⟩) (wants Q₁ E) s:=by
  refine codeAny_of_tree ?_
  show wpAny _ A.in1 (do checkBuiltinCall "set.__new__" ⟨[.type "set",a],[]⟩;again (.builtin "set.__new__" ⟨[.type "set",a],[]⟩)) _ _ s
  refine wpAny_bind (wpAny_of_eq (F.newCall_set_1 a) (wpAny_pure ⟨plainId_quiet F.plain_set_new _,codeAny_builtin F.entry_set_new ?_⟩))
  rw [Around.under_plainId F.plain_set_new _]
  unfold Builtin.«set.__new__» Builtin.Frozenset.newClass
  have hsub:=sub_set_self
  obtain ⟨hp,g,d,tk,os⟩:=s
  dsimp only
  wp_walk
  refine wpAny_askSetting (wpAny_pure ?_)
  dsimp only
  simp only [newObj]
  refine wpAny_bind (wpAny_alloc (wpAny_pure ?_))
  exact wpAny_pure h
set_option maxHeartbeats 8000000 in
theorem yez {l:Addr} {items:Array Value} {ns:List Int} {Q:Value→Shared→Prop} (hh:A.handled=none) (hl:s.heap.IsList l items) (hi:IntsAre items.toList ns) (hb:items.size+1<scanBound)
    (h:∀(h':Heap) (tk:Nat),SetG w prog h' s.heap.objs.size (fun k'=>(firstMet (fun i=>ns.getD i 0) items.size).any (·==k')) (firstMet (fun i=>ns.getD i 0) items.size).length→
      (∀b o,s.heap.get? b=some o→h'.get? b=some o)→Q (.ref s.heap.objs.size) { s with heap:=h',toks:=tk }) :
    wpAny (model prog w) A (call (.type "set") [.ref l]) Q E s:=by
  obtain ⟨c,tl,hmro⟩:=F.called_set.mro
  have hmade:=F.called_set.made
  have hsub:=F.called_set.sub
  refine wpAny_call (codeAny_of_tree ?_)
  show wpAny _ _ (callAny (.type "set") _) _ _ _
  refine wpAny_pure ⟨Code.quiet_builtin _ (by decide +kernel),codeAny_builtin F.entry_type_call ?_⟩
  rw [Around.under_plain (weight_type_call_type "set" [.ref l] []) rfl]
  have h1:=F.called_set.notType
  have h2:=F.called_set.canCreate
  have hct:=F.typeCall_set_1 (.ref l)
  repeat (any_goals (first|assumption|wp_step))
  refine codeAny_mono (zeZ (.ref l) (E:=E) (Q₁:=fun obj s₁=>obj = .ref s.heap.objs.size∧s₁={ s with heap:=s.heap.push (ya8 w) }) ⟨rfl,rfl⟩) fun r s₁ hr=>?_
  cases r with
  | error e=>exact hr
  | ok fl =>
    cases fl with
    | ret obj =>
      obtain ⟨rfl,rfl⟩:=hr
      have hS:(s.heap.push (ya8 w)).get? s.heap.objs.size=some (ya8 w):=Heap.get?_push_size _ rfl
      have hT:Shared.TypeIs { s with heap:=s.heap.push (ya8 w) } (.ref s.heap.objs.size) "set":=⟨_,hS,rfl⟩
      have hli:=F.called_set.init.lookup
      have hbi:=F.called_set.init.bind (.ref s.heap.objs.size)
      repeat (any_goals (first|assumption|wp_step))
      refine codeAny_mono (codeAny_call_builtin (R:=wants (fun r s₂=>r = .none∧∃h' tk,s₂={ s with heap:=h',toks:=tk }∧
          SetG w prog h' s.heap.objs.size (fun k'=>(firstMet (fun i=>ns.getD i 0) items.size).any (·==k')) (firstMet (fun i=>ns.getD i 0) items.size).length∧
          (∀b o,s.heap.get? b=some o→h'.get? b=some o)) E) F.called_set.init.plain F.entry_set_init (check_set_init_1 hT ?_)) fun r₂ s₂ hr₂=>?_
      · obtain ⟨ol,hol,hcl,nl,hdl⟩:=hl
        obtain ⟨ocls,odict,odata,oslots⟩:=ol
        simp only at hcl hdl
        subst hcl;subst hdl
        have hol':(s.heap.push (ya8 w)).get? l=some { cls:=.type "list",dict:=odict,data:=.seq items nl,slots:=oslots }:=Heap.get?_push_of_some _ hol
        have hsls:=F.sub_list_set
        have hslf:=F.sub_list_frozenset
        have hne:(Value.type "list"==Value.type "dict")=false:=by decide
        have hl1:(s.heap.push (ya8 w)).IsList l items:=⟨_,hol',rfl,nl,rfl⟩
        unfold Builtin.«set.__init__» noKeywords Builtin.Frozenset.updateFrom
        generalize hPI:pyIter=PI
        wp_walk
        subst hPI
        refine wpAny_pyIter_list hl1 ?_
        refine wpAny_bind (wpAny_runValue ?_)
        have hlS:l<s.heap.objs.size:=Heap.lt_size hol
        have hneI:l≠(s.heap.push (ya8 w)).objs.size:=by rw [Heap.size_push];exact Nat.ne_of_lt (Nat.lt_succ_of_lt hlS)
        have hSf:s.heap.objs.size∉[(s.heap.push (ya8 w)).objs.size,l]:=by
          rw [Heap.size_push];simp only [List.mem_cons,List.not_mem_nil,or_false,not_or]
          exact ⟨Nat.ne_of_lt (Nat.lt_succ_self _),Nat.ne_of_gt hlS⟩
        refine yg3 ((Walks.list (by simp [hh]) _ l hneI items).toS) s.heap.objs.size hSf (fun i=>ns.getD i 0) (fun i v hv=>IntsAre.int_at hi i v (by rw [Array.getElem?_toList];exact hv)) hb (items.size-0) 0 _ (by lia) (Nat.zero_le _)
          ⟨⟨_,Heap.get?_push_size _ rfl,rfl,rfl⟩,(hl1.push _)⟩ ((zfN (Heap.get?_push_of_some _ hS)).congr (fun _=>rfl) rfl) fun s' hm hS'=>?_
        obtain ⟨h',g',d',tk',os'⟩:=s'
        obtain rfl:g'=s.gens:=hm.gens
        obtain rfl:d'=s.drawn:=hm.drawn
        obtain rfl:os'=s.os:=hm.os
        show wpAny _ _ _ _ _ _
        refine wpAny_pure ?_
        show wpAny _ _ (ret Value.none) _ _ _
        refine wpAny_pure ⟨rfl,h',tk',rfl,hS',fun b o e=>?_⟩
        have hb:=Heap.lt_size e
        refine hm.heap b o ?_ (Heap.get?_push_of_some _ (Heap.get?_push_of_some _ e))
        simp only [List.mem_cons,List.not_mem_nil,or_false,not_or]
        rw [Heap.size_push]
        exact ⟨Nat.ne_of_lt hb,Nat.ne_of_lt (Nat.lt_succ_of_lt hb)⟩
      · cases r₂ with
        | error e=>exact hr₂
        | ok fl₂ =>
          cases fl₂ with
          | ret r =>
            obtain ⟨rfl,h',tk,rfl,hS',hk'⟩:=hr₂
            repeat (any_goals (first|assumption|wp_step))
            exact h _ _ hS' hk'
          | _=>exact hr₂.elim
    | _=>exact hr.elim
end
end L2
end
section
-- text: ExtP
set_option Elab.async false
set_option linter.all false
set_option maxRecDepth 100000
set_option maxHeartbeats 4000000
namespace L2
open PySem PyProof.Rows
theorem za4:Manifest.owners.lookup (String.ofList ['r','o','t','a','r','e','t','i','_','t','e','s'].reverse)=some Manifest.sig_set_iterator:=by kernel_rfl
theorem zal:Slot "set_iterator" "__next__" "set_iterator.__next__" :=
  .of (owner:="set_iterator") (n:="__next__") (by rw [typeLookup_type,builtinLookup_eq_fast];kernel_rfl) (by decide +kernel) (by decide +kernel) (by decide +kernel)
    (by first|exact .inl (by decide +kernel)|exact .inr (by decide +kernel)) (by rw [isSubtype_type];kernel_rfl)
theorem yaR:entryFor table "set_iterator.__next__"=some Builtin.«set_iterator.__next__»:=entryFor_of_tree (by kernel_rfl)
theorem yaK (a:Value):argsOk "set_iterator.__next__" ⟨[a],[]⟩:=by
  unfold argsOk;rw [signature?_of (id:="set_iterator.__next__") (n:=['_','_','t','x','e','n','_','_']) (o:=['r','o','t','a','r','e','t','i','_','t','e','s']) (by kernel_rfl) za4];kernel_rfl
theorem zcC:entryFor table "set.__iter__"=some Builtin.«frozenset.__iter__» :=
  entryFor_alias (id':="frozenset.__iter__") (by kernel_rfl) (by first|rfl|decide +kernel|(unfold String.splitOn;simp +decide [String.splitOnAux])) (by decide +kernel) (by kernel_rfl)
noncomputable def IsSI (h:Heap) (I S:Addr) (first:Value) (i n ep:Nat):Prop:=∃o,h.get? I=some o∧o.cls = .type "set_iterator"∧o.data = .fields #[first,rawInt i,.ref S,rawInt n,rawInt ep]
theorem IsSI.at {h h':Heap} {I S:Addr} {first:Value} {i n ep:Nat} (x:IsSI h I S first i n ep) (e:∀o,h.get? I=some o→h'.get? I=some o):IsSI h' I S first i n ep:=let ⟨o,ho,r⟩:=x;⟨o,e _ ho,r⟩
noncomputable def zb9 (h:Heap) (S:Addr) (es:Array (Int×Value)) (ep:Nat) (t:SetTable):Prop:=∃o,h.get? S=some o∧o.data = .set es ep t∧t.fits es.size=true
theorem zb9.at {h h':Heap} {S:Addr} {es:Array (Int×Value)} {ep:Nat} {t:SetTable} (x:zb9 h S es ep t) (e:∀o,h.get? S=some o→h'.get? S=some o):zb9 h' S es ep t:=let ⟨o,ho,r⟩:=x;⟨o,e _ ho,r⟩
section
variable {prog:Program} {w:World} {A:Around} {E:Value→Shared→Prop} {s:Shared}
theorem IsSI.typeIs {I S:Addr} {first:Value} {i n ep:Nat} (x:IsSI s.heap I S first i n ep):s.TypeIs (.ref I) "set_iterator":=let ⟨o,ho,hc,_⟩:=x;⟨o,ho,hc⟩
noncomputable def zfF (prog:Program) (w:World) (s:Shared) (S:Addr) (slot i ep:Nat) (r:Option (Value×Nat)):Prop:=∀(A:Around) (E:Value→Shared→Prop) (Q:Option (Value×Nat)→Shared→Prop),Q r s→wpAny (model prog w) A (setNext S slot i ep) Q E s
theorem yeH {I S:Addr} {slot i ep nx:Nat} {es:Array (Int×Value)} {t:SetTable} {x:Value} {Q:Option Value→Shared→Prop} (hit:IsSI s.heap I S (rawInt slot) i es.size ep) (hs:zb9 s.heap S es ep t) (hT:zfF prog w s S slot i ep (some (x,nx)))
    (hQ:∀h',IsSI h' I S (rawInt nx) (i+1) es.size ep→Heap.SameBut I s.heap h'→Q (some x) { s with heap:=h' }):wpAny (model prog w) A (pyNext (.ref I)) Q E s:=by
  obtain ⟨o,ho,hc,hd⟩:=id hit
  obtain ⟨os,hos,hds,hf⟩:=id hs
  unfold pyNext
  refine wpAny_bind (wpAny_attempt (wpAny_callSpecial?_slot (name:=Str.ofString "__next__") hit.typeIs zal
    (wpAny_call_entry zal hit.typeIs yaR ?_ (yaK _))))
  unfold Builtin.«set_iterator.__next__»
  refine wpAny_bind (wpAny_of_eq (a:=(Value.ref I,[])) rfl ?_)
  try dsimp only
  refine wpAny_bind (wpAny_fieldsOf ho hd ?_)
  simp only [rawInt]
  refine wpAny_bind (wpAny_setEntries_of hos hds hf ?_)
  refine wpAny_ite_split (fun h=>absurd h (by simp)) (fun _=>?_)
  refine wpAny_bind (hT _ _ _ ?_)
  dsimp only
  refine wpAny_bind (wpAny_setField ho hd (by simp) ?_)
  have h1:=Heap.get?_update_self (Obj.mapFields (fun vs=>vs.setIfInBounds 0 (Value.int nx 0))) ho (Obj.isFreed_of_fields (Obj.data_mapFields hd _))
  refine wpAny_bind (wpAny_setField h1 (Obj.data_mapFields hd _) (by simp) ?_)
  refine wpAny_pure ⟨x,rfl,wpAny_pure (hQ _ ?_ ((Heap.SameBut.update ..).trans (Heap.SameBut.update ..)))⟩
  exact ⟨_,Heap.get?_update_self _ h1 (Obj.isFreed_of_fields (Obj.data_mapFields (Obj.data_mapFields hd _) _)),(Obj.cls_mapFields ..).trans ((Obj.cls_mapFields ..).trans hc),by rw [Obj.data_mapFields (Obj.data_mapFields hd _)];simp [rawInt]⟩
theorem yfm {I:Addr} {Q:Option Value→Shared→Prop} (hh:A.handled=none) {s1:Shared} (hQ:∀h' tk,(∀b o,s1.heap.get? b=some o→h'.get? b=some o)→Q none { s1 with heap:=h',toks:=tk }) :
    wpAny (model prog w) A.in1 (newExc (.type "StopIteration") [] >>= fun e=>raiseNew e) (fun fin s'=>∃v,fin=Fin.done (Flow.ret v)∧wpAny (model prog w) A (pure (some v)) Q E s')
      (fun e s'=>wpAny (model prog w) A (do if (←isInstance e (.type "StopIteration"))=true then pure none else throw e) Q E s') s1:=by
  refine wpAny_bind ?_
  simp only [newExc,newTuple]
  refine wpAny_bind (wpAny_newObj_type ?_ (by size_fits))
  refine wpAny_bind (m:=firstArgMember _ _) (wpAny_of_eq (a:=Value.none) (by first|rfl|(simp only [firstArgMember];rfl)) ?_)
  refine wpAny_newObj_type ?_ (by size_fits)
  simp only [raiseNew]
  refine wpAny_bind (wpAny_handled ?_)
  first|rw [show A.in1.handled=none from hh]|rw [hh]
  refine wpAny_bind (wpAny_pure (wpAny_throw ?_))
  refine wpAny_bind (wpAny_isInstance (T:="StopIteration") (b:=true) ⟨_,Heap.get?_push_size _ rfl,rfl⟩ isSubtype_stop ?_)
  exact wpAny_pure (hQ _ _ fun b o' e=>Heap.get?_push_of_some _ (Heap.get?_push_of_some _ e))
theorem zf9 {I S:Addr} {slot i ep:Nat} {es:Array (Int×Value)} {t:SetTable} {Q:Option Value→Shared→Prop} (hh:A.handled=none) (hit:IsSI s.heap I S (rawInt slot) i es.size ep) (hs:zb9 s.heap S es ep t) (hT:zfF prog w s S slot i ep none)
    (hQ:∀h' tk,Heap.ExtBut I s.heap h'→Q none { s with heap:=h',toks:=tk }):wpAny (model prog w) A (pyNext (.ref I)) Q E s:=by
  obtain ⟨o,ho,hc,hd⟩:=id hit
  obtain ⟨os,hos,hds,hf⟩:=id hs
  unfold pyNext
  refine wpAny_bind (wpAny_attempt (wpAny_callSpecial?_slot (name:=Str.ofString "__next__") hit.typeIs zal
    (wpAny_call_entry zal hit.typeIs yaR ?_ (yaK _))))
  unfold Builtin.«set_iterator.__next__»
  refine wpAny_bind (wpAny_of_eq (a:=(Value.ref I,[])) rfl ?_)
  try dsimp only
  refine wpAny_bind (wpAny_fieldsOf ho hd ?_)
  simp only [rawInt]
  refine wpAny_bind (wpAny_setEntries_of hos hds hf ?_)
  refine wpAny_ite_split (fun h=>absurd h (by simp)) (fun _=>?_)
  refine wpAny_bind (hT _ _ _ ?_)
  dsimp only
  refine wpAny_bind (wpAny_setField ho hd (by simp) ?_)
  refine yfm (I:=I) hh fun h' tk k=>hQ h' tk fun b o' hb e=>k b o' ((Heap.get?_update_other _ _ (Ne.symm hb)).trans e)
theorem zgp {I S T:Addr} {i ep pl:Nat} {es:Array (Int×Value)} {t:SetTable} {places:Array Value} {kx:Int×Value} {tk:Tok} {Q:Option Value→Shared→Prop} (hit:IsSI s.heap I S (.ref T) i es.size ep) (hs:zb9 s.heap S es ep t) (ht:s.heap.IsTuple T places)
    (hp:places[i]?=some (.int pl tk)) (hx:es[pl]?=some kx)
    (hQ:∀h',IsSI h' I S (.ref T) (i+1) es.size ep→Heap.SameBut I s.heap h'→Q (some kx.2) { s with heap:=h' }):wpAny (model prog w) A (pyNext (.ref I)) Q E s:=by
  obtain ⟨o,ho,hc,hd⟩:=id hit
  obtain ⟨os,hos,hds,hf⟩:=id hs
  obtain ⟨ot,hot,hct,nt,hdt⟩:=id ht
  unfold pyNext
  refine wpAny_bind (wpAny_attempt (wpAny_callSpecial?_slot (name:=Str.ofString "__next__") hit.typeIs zal
    (wpAny_call_entry zal hit.typeIs yaR ?_ (yaK _))))
  unfold Builtin.«set_iterator.__next__»
  refine wpAny_bind (wpAny_of_eq (a:=(Value.ref I,[])) rfl ?_)
  try dsimp only
  refine wpAny_bind (wpAny_fieldsOf ho hd ?_)
  simp only [rawInt]
  refine wpAny_bind (wpAny_setEntries_of hos hds hf ?_)
  refine wpAny_ite_split (fun h=>absurd h (by simp)) (fun _=>?_)
  unfold seqItems?
  refine wpAny_bind (wpAny_bind (wpAny_load hot ?_))
  rw [hdt]
  refine wpAny_pure ?_
  dsimp only
  rw [Int.toNat_natCast,hp]
  dsimp only
  unfold setNextDrawn
  refine wpAny_bind (wpAny_bind (wpAny_setState_of hos hds hf ?_))
  dsimp only
  refine wpAny_ite_split (fun h=>absurd h (by simp)) (fun _=>?_)
  rw [Int.toNat_natCast,hx]
  obtain ⟨k0,x⟩:=kx
  refine wpAny_pure ?_
  refine wpAny_bind (wpAny_setField ho hd (by simp) ?_)
  refine wpAny_pure ⟨x,rfl,wpAny_pure (hQ _ ?_ (Heap.SameBut.update ..))⟩
  exact ⟨_,Heap.get?_update_self _ ho (Obj.isFreed_of_fields (Obj.data_mapFields hd _)),(Obj.cls_mapFields ..).trans hc,by rw [Obj.data_mapFields hd];simp [rawInt]⟩
theorem yhe {I S T:Addr} {i ep:Nat} {es:Array (Int×Value)} {t:SetTable} {places:Array Value} {Q:Option Value→Shared→Prop} (hh:A.handled=none) (hit:IsSI s.heap I S (.ref T) i es.size ep) (hs:zb9 s.heap S es ep t) (ht:s.heap.IsTuple T places)
    (hp:places[i]?=none) (hQ:∀h' tk,Heap.ExtBut I s.heap h'→Q none { s with heap:=h',toks:=tk }):wpAny (model prog w) A (pyNext (.ref I)) Q E s:=by
  obtain ⟨o,ho,hc,hd⟩:=id hit
  obtain ⟨os,hos,hds,hf⟩:=id hs
  obtain ⟨ot,hot,hct,nt,hdt⟩:=id ht
  unfold pyNext
  refine wpAny_bind (wpAny_attempt (wpAny_callSpecial?_slot (name:=Str.ofString "__next__") hit.typeIs zal
    (wpAny_call_entry zal hit.typeIs yaR ?_ (yaK _))))
  unfold Builtin.«set_iterator.__next__»
  refine wpAny_bind (wpAny_of_eq (a:=(Value.ref I,[])) rfl ?_)
  try dsimp only
  refine wpAny_bind (wpAny_fieldsOf ho hd ?_)
  simp only [rawInt]
  refine wpAny_bind (wpAny_setEntries_of hos hds hf ?_)
  refine wpAny_ite_split (fun h=>absurd h (by simp)) (fun _=>?_)
  unfold seqItems?
  refine wpAny_bind (wpAny_bind (wpAny_load hot ?_))
  rw [hdt]
  refine wpAny_pure ?_
  dsimp only
  rw [Int.toNat_natCast,hp]
  dsimp only
  refine wpAny_bind (wpAny_setField ho hd (by simp) ?_)
  have h1:=Heap.get?_update_self (Obj.mapFields (fun vs=>vs.setIfInBounds 0 (Value.int 0 0))) ho (Obj.isFreed_of_fields (Obj.data_mapFields hd _))
  refine wpAny_bind (wpAny_setField h1 (Obj.data_mapFields hd _) (by simp) ?_)
  refine yfm (I:=I) hh fun h' tk k=>hQ h' tk fun b o' hb e=>k b o' ((Heap.get?_update_other _ _ (Ne.symm hb)).trans ((Heap.get?_update_other _ _ (Ne.symm hb)).trans e))
theorem ycQ {S:Addr} {es:Array (Int×Value)} {ep:Nat} {t:SetTable} (hs:zb9 s.heap S es ep t) (hb:ya0 w=true) (slot i:Nat):zfF prog w s S slot i ep (((pickOrder (w.params.setOrder S ep) es)[i]?).map fun e=>(e.2,slot)):=by
  intro A E Q hQ
  obtain ⟨os,hos,hds,hf⟩:=id hs
  unfold setNext setWalk setsByText
  refine wpAny_bind (wpAny_setState_of hos hds hf ?_)
  dsimp only
  refine wpAny_bind (wpAny_bind (wpAny_askSetting (wpAny_pure ?_)))
  refine wpAny_ite_split (fun _=>?_) (fun h=>absurd hb h)
  refine wpAny_ite_split (fun h=>absurd h (by simp)) (fun _=>?_)
  refine wpAny_bind (wpAny_bind (wpAny_setState_of hos hds hf ?_))
  dsimp only
  refine wpAny_bind (wpAny_bind (wpAny_askSetting (wpAny_pure ?_)))
  refine wpAny_ite_split (fun _=>?_) (fun h=>absurd hb h)
  refine wpAny_bind (wpAny_askSetting ?_)
  exact wpAny_pure (wpAny_pure hQ)
theorem ycs {S:Addr} {es:Array (Int×Value)} {ep:Nat} {t:SetTable} (hs:zb9 s.heap S es ep t) (hb:ya0 w=false) (hl:t.led=true) (hp:t.plain=true∨es.size≤1) (slot i:Nat) :
    zfF prog w s S slot i ep (match es[SetTable.below t.place slot]?,t.place[SetTable.below t.place slot]? with|some (_,x),some j=>some (x,j+1)|_,_=>none):=by
  intro A E Q hQ
  obtain ⟨os,hos,hds,hf⟩:=id hs
  unfold setNext setsByText
  refine wpAny_bind (wpAny_setState_of hos hds hf ?_)
  dsimp only
  refine wpAny_bind (wpAny_bind (wpAny_askSetting (wpAny_pure ?_)))
  refine wpAny_ite_split (fun h=>absurd (show ya0 w=true from h) (by rw [hb];decide)) (fun _=>?_)
  refine wpAny_ite_split (fun h=>?_) (fun _=>?_)
  · have h':(!t.plain&&decide (es.size>1))=true:=h
    simp only [Bool.and_eq_true,Bool.not_eq_true',decide_eq_true_eq] at h'
    rcases hp with hp|hp
    · rw [hp] at h';exact absurd h'.1 (by decide)
    · omega
  refine wpAny_bind ?_
  show wpAny _ _ (if (!t.led&&!es.isEmpty)=true then unsupported "set:maker-not-led" else pure ()) _ _ _
  refine wpAny_ite_split (fun h=>absurd h (by rw [hl];simp)) (fun _=>?_)
  refine wpAny_pure ?_
  exact wpAny_pure hQ
end
end L2
end
section
-- text: ExtQ
set_option Elab.async false
set_option linter.all false
set_option maxRecDepth 100000
set_option maxHeartbeats 4000000
namespace L2
open PySem PyProof.Rows
section
variable {prog:Program} {w:World} {A:Around} {E:Value→Shared→Prop} {s:Shared}
theorem yb3 {α:Type}:∀(l:List α) (i:Nat) (h:i<l.length),(l[i]::l.eraseIdx i).Perm l
  | [],i,h=>absurd h (Nat.not_lt_zero _)
  | x::l,0,h=>List.Perm.refl _
  | x::l,i+1,h=>by
    show (l[i]'(by simpa using h)::x::l.eraseIdx i).Perm (x::l)
    exact (List.Perm.swap _ _ _).trans (List.Perm.cons _ (yb3 l i (by simpa using h)))
theorem zeG {α:Type} (f:Nat→Nat):∀(n k:Nat) (l:List α) (out:Array α),l.length=n→(pickOrder.go f n k l out).toList.Perm (out.toList++l)
  | 0,k,l,out,h=>by
    have:l=[]:=List.length_eq_zero_iff.mp h
    subst this
    unfold pickOrder.go
    rw [List.append_nil]
  | n+1,k,l,out,h=>by
    have hi:f k%l.length<l.length:=Nat.mod_lt _ (by omega)
    unfold pickOrder.go
    rw [List.getElem?_eq_getElem hi]
    dsimp only
    have ih:=zeG f n (k+1) (l.eraseIdx (f k%l.length)) (out.push l[f k%l.length]) (by rw [List.length_eraseIdx_of_lt hi];omega)
    refine ih.trans ?_
    rw [Array.toList_push,List.append_assoc]
    exact List.Perm.append_left _ (yb3 _ _ hi)
theorem ycp {α:Type} (f:Nat→Nat) (xs:Array α):(pickOrder f xs).toList.Perm xs.toList:=by
  have:=zeG f xs.size 0 xs.toList #[] (by simp)
  simpa [pickOrder] using this
theorem zdh {src:Source} {n:Nat} {Q:Nat→Shared→Prop} {M:Model} (hn:n≠0) (h:∀x d',x<n→Q x { s with drawn:=d' }):wpAny M A (choose src n) Q E s:=fun _ _ _=>⟨hn,h _ _ (Nat.mod_lt _ (by omega))⟩
theorem zdw {α:Type} {M:Model}:∀(n:Nat) (xs:List α) (s:Shared) (Q:List α→Shared→Prop),xs.length=n→(∀r d',r.Perm xs→Q r { s with drawn:=d' })→wpAny M A (drawOrder n xs) Q E s
  | 0,xs,s,Q,h,hQ=>by
    have:xs=[]:=List.length_eq_zero_iff.mp h
    subst this
    unfold drawOrder
    exact wpAny_pure (hQ [] s.drawn .nil)
  | n+1,xs,s,Q,h,hQ=>by
    cases xs with
    | nil=>cases h
    | cons y ys =>
      unfold drawOrder
      refine wpAny_bind (zdh (by simp) fun i d' hi=>?_)
      rw [List.getElem?_eq_getElem hi]
      dsimp only
      refine wpAny_bind (zdw n _ _ _ (by rw [List.length_eraseIdx_of_lt hi];simp at h;simp;omega) fun r d2 hr=>?_)
      exact wpAny_pure (hQ _ d2 ((List.Perm.cons _ hr).trans (yb3 _ _ hi)))
noncomputable abbrev GE:Array GenState→Array GenState→Prop:=fun a b=>b=a
theorem zb5:Slot "set_iterator" "__iter__" "set_iterator.__iter__" :=
  .of (owner:="set_iterator") (n:="__iter__") (by rw [typeLookup_type,builtinLookup_eq_fast];kernel_rfl) (by decide +kernel) (by decide +kernel) (by decide +kernel)
    (by first|exact .inl (by decide +kernel)|exact .inr (by decide +kernel)) (by rw [isSubtype_type];kernel_rfl)
theorem ycD (a:Value):argsOk "set_iterator.__iter__" ⟨[a],[]⟩:=by
  unfold argsOk;rw [signature?_of (id:="set_iterator.__iter__") (n:=['_','_','r','e','t','i','_','_']) (o:=['r','o','t','a','r','e','t','i','_','t','e','s']) (by kernel_rfl) za4];kernel_rfl
theorem zdg:entryFor table "set_iterator.__iter__"=some Builtin.«dict_keyiterator.__iter__» :=
  entryFor_alias (id':="dict_keyiterator.__iter__") (by kernel_rfl) (by first|rfl|decide +kernel|(unfold String.splitOn;simp +decide [String.splitOnAux])) (by decide +kernel) (by kernel_rfl)
theorem ycl {I S:Addr} {first:Value} {i n ep:Nat} {Q:Value→Shared→Prop} (hit:IsSI s.heap I S first i n ep) (h:Q (.ref I) s):wpAny (model prog w) A (pyIter (.ref I)) Q E s:=by
  refine wpAny_pyIter_slot hit.typeIs zb5 (wpAny_call_entry zb5 hit.typeIs zdg ?_ (ycD _))
  show wpAny _ _ (ret (.ref I)) _ _ s
  exact wpAny_pure ⟨_,rfl,"set_iterator",_,hit.typeIs,zal.lookup,h⟩
theorem zfn {I S:Addr} {es:Array (Int×Value)} {ep:Nat} {t:SetTable} (hh:A.handled=none) (hne:S≠I) (hb:ya0 w=true) :
    WalksS prog w A I [I,S] [I] GE es.size (fun i v=>((pickOrder (w.params.setOrder S ep) es).toList.map (·.2))[i]?=some v) (fun i s=>IsSI s.heap I S (rawInt ((0:Nat):Int)) i es.size ep∧zb9 s.heap S es ep t) where
  sub:=fun b hb=>by simp at hb;simp [hb]
  grefl:=fun _=>rfl
  gtrans:=fun _ _ _ h1 h2=>h2.trans h1
  frame:=fun i s h' tk st _ hk=>⟨st.1.at fun o e=>hk I (by simp) o e,st.2.at fun o e=>hk S (by simp) o e⟩
  item:=fun i s Q E hi st hQ=>by
    have hl:(pickOrder (w.params.setOrder S ep) es).size=es.size:=by rw [←Array.length_toList,(ycp _ es).length_eq,Array.length_toList]
    have hx:(pickOrder (w.params.setOrder S ep) es)[i]?=some (pickOrder (w.params.setOrder S ep) es)[i]:=Array.getElem?_eq_getElem (by omega)
    have hT:=ycQ (prog:=prog) st.2 hb 0 i
    rw [hx] at hT
    refine yeH st.1 st.2 hT fun h' hit' hs'=>?_
    refine hQ _ _ ?_ ⟨hit',st.2.at fun o e=>?_⟩ ⟨fun b o hb e=>?_,rfl,rfl,rfl,Nat.le_refl _⟩
    · rw [List.getElem?_map,Array.getElem?_toList,hx];rfl
    · exact hs'.extBut S o hne e
    · exact hs'.extBut b o (fun q=>hb (by simp [q])) e
  done:=fun s Q E st hQ=>by
    have hl:(pickOrder (w.params.setOrder S ep) es).size=es.size:=by rw [←Array.length_toList,(ycp _ es).length_eq,Array.length_toList]
    have hx:(pickOrder (w.params.setOrder S ep) es)[es.size]?=none:=Array.getElem?_eq_none (by omega)
    have hT:=ycQ (prog:=prog) st.2 hb 0 es.size
    rw [hx] at hT
    exact wpAny_with_toks (Nat.le_refl s.toks) (zf9 hh st.1 st.2 hT fun h' tk k htk=>hQ _ ⟨fun b o hb e=>k b o (fun q=>hb (by simp [q])) e,rfl,rfl,rfl,htk⟩)
  self:=fun i s Q E st h=>ycl st.1 h
noncomputable def yb4 (place:Array Nat):Nat→Nat
  | 0=>0
  | i+1=>place.getD i 0+1
theorem zb6 {place:Array Nat} (h:Rise place):∀i,i≤place.size→SetTable.below place (yb4 place i)=i
  | 0,_=>by
    obtain ⟨h1,h2,h3⟩:=zbZ h 0
    show SetTable.below place 0=0
    rcases Nat.eq_zero_or_pos (SetTable.below place 0) with c|c
    · exact c
    · exact absurd (h2 0 (by omega) c) (Nat.not_lt_zero _)
  | i+1,hi=>by
    have e:yb4 place (i+1)=place[i]+1:=by show place.getD i 0+1=_;simp [Array.getD,show i<place.size by omega]
    obtain ⟨h1,h2,h3⟩:=zbZ h (yb4 place (i+1))
    rw [e] at h1 h2 h3 ⊢
    generalize SetTable.below place (place[i]+1)=r at *
    rcases Nat.lt_trichotomy r (i+1) with c|c|c
    · have:=h3 i (by omega) (by omega);omega
    · exact c
    · have h4:=h2 (i+1) (by omega) c
      have h5:=ycf h (show i<i+1 by omega) (by omega)
      omega
theorem zem {I S:Addr} {es:Array (Int×Value)} {ep:Nat} {t:SetTable} (hh:A.handled=none) (hne:S≠I) (hb:ya0 w=false) (hl:t.led=true) (hp:t.plain=true∨es.size≤1) (hr:Rise t.place) (hz:t.place.size=es.size) :
    WalksS prog w A I [I,S] [I] GE es.size (fun i v=>(es.toList.map (·.2))[i]?=some v) (fun i s=>IsSI s.heap I S (rawInt (yb4 t.place i:Nat)) i es.size ep∧zb9 s.heap S es ep t) where
  sub:=fun b hb=>by simp at hb;simp [hb]
  grefl:=fun _=>rfl
  gtrans:=fun _ _ _ h1 h2=>h2.trans h1
  frame:=fun i s h' tk st _ hk=>⟨st.1.at fun o e=>hk I (by simp) o e,st.2.at fun o e=>hk S (by simp) o e⟩
  item:=fun i s Q E hi st hQ=>by
    have hT:=ycs (prog:=prog) st.2 hb hl hp (yb4 t.place i) i
    rw [zb6 hr i (by omega),Array.getElem?_eq_getElem hi,Array.getElem?_eq_getElem (show i<t.place.size by omega)] at hT
    refine yeH (nx:=yb4 t.place (i+1)) (x:=es[i].2) st.1 st.2 ?_ fun h' hit' hs'=>?_
    · have e:yb4 t.place (i+1)=t.place[i]+1:=by show t.place.getD i 0+1=_;simp [Array.getD,show i<t.place.size by omega]
      rw [e];exact hT
    refine hQ _ _ ?_ ⟨hit',st.2.at fun o e=>?_⟩ ⟨fun b o hb e=>?_,rfl,rfl,rfl,Nat.le_refl _⟩
    · rw [List.getElem?_map,Array.getElem?_toList,Array.getElem?_eq_getElem hi];rfl
    · exact hs'.extBut S o hne e
    · exact hs'.extBut b o (fun q=>hb (by simp [q])) e
  done:=fun s Q E st hQ=>by
    have hT:=ycs (prog:=prog) st.2 hb hl hp (yb4 t.place es.size) es.size
    rw [zb6 hr es.size (by omega),Array.getElem?_eq_none (Nat.le_refl _)] at hT
    exact wpAny_with_toks (Nat.le_refl s.toks) (zf9 hh st.1 st.2 hT fun h' tk k htk=>hQ _ ⟨fun b o hb e=>k b o (fun q=>hb (by simp [q])) e,rfl,rfl,rfl,htk⟩)
  self:=fun i s Q E st h=>ycl st.1 h
theorem yel {I S T:Addr} {es:Array (Int×Value)} {ep:Nat} {t:SetTable} {ps:List Nat} (hh:A.handled=none) (hne:S≠I) (hneT:T≠I) (hps:ps.Perm (List.range es.size)) :
    WalksS prog w A I [I,S,T] [I] GE es.size (fun i v=>(ps.map fun p=>(es.getD p (0,.none)).2)[i]?=some v) (fun i s=>IsSI s.heap I S (.ref T) i es.size ep∧zb9 s.heap S es ep t∧s.heap.IsTuple T (ps.map fun (p:Nat)=>rawInt p).toArray) where
  sub:=fun b hb=>by simp at hb;simp [hb]
  grefl:=fun _=>rfl
  gtrans:=fun _ _ _ h1 h2=>h2.trans h1
  frame:=fun i s h' tk st _ hk=>⟨st.1.at fun o e=>hk I (by simp) o e,st.2.1.at fun o e=>hk S (by simp) o e,st.2.2.at fun o e=>hk T (by simp) o e⟩
  item:=fun i s Q E hi st hQ=>by
    have hl:ps.length=es.size:=by rw [hps.length_eq,List.length_range]
    have hm:∀p∈ps,p<es.size:=fun p hp=>List.mem_range.mp (hps.mem_iff.mp hp)
    have hpi:ps[i]'(by omega)<es.size:=hm _ (List.getElem_mem _)
    refine zgp (pl:=ps[i]'(by omega)) (kx:=es[ps[i]'(by omega)]) (tk:=0) st.1 st.2.1 st.2.2 ?_ (Array.getElem?_eq_getElem hpi) fun h' hit' hs'=>?_
    · rw [List.getElem?_toArray,List.getElem?_map,List.getElem?_eq_getElem (show i<ps.length by omega)];rfl
    refine hQ _ _ ?_ ⟨hit',st.2.1.at fun o e=>hs'.extBut S o hne e,st.2.2.at fun o e=>hs'.extBut T o hneT e⟩ ⟨fun b o hb e=>hs'.extBut b o (fun q=>hb (by simp [q])) e,rfl,rfl,rfl,Nat.le_refl _⟩
    rw [List.getElem?_map,List.getElem?_eq_getElem (show i<ps.length by omega)]
    simp [Array.getD,hpi]
  done:=fun s Q E st hQ=>by
    have hl:ps.length=es.size:=by rw [hps.length_eq,List.length_range]
    exact wpAny_with_toks (Nat.le_refl s.toks) (yhe hh st.1 st.2.1 st.2.2 (by rw [List.getElem?_toArray,List.getElem?_eq_none (by simp;omega)]) fun h' tk k htk=>hQ _ ⟨fun b o hb e=>k b o (fun q=>hb (by simp [q])) e,rfl,rfl,rfl,htk⟩)
  self:=fun i s Q E st h=>ycl st.1 h
theorem zeB {es:Array (Int×Value)} {ps:List Nat} (hps:ps.Perm (List.range es.size)):(ps.map fun p=>(es.getD p (0,.none)).2).Perm (es.toList.map (·.2)):=by
  refine (hps.map _).trans ?_
  have e:(List.range es.size).map (fun p=>(es.getD p (0,Value.none)).2)=es.toList.map (·.2):=by
    apply List.ext_getElem
    · simp
    · intro i h1 h2
      simp at h1
      simp [Array.getD,h1]
  rw [e]
noncomputable def zg4 (prog:Program) (w:World) (S:Addr) (es:Array (Int×Value)) (s0 s:Shared) (I:Addr):Prop :=
  ∃(vs:List Value) (fp:List Addr) (St:Nat→Shared→Prop),vs.Perm (es.toList.map (·.2))∧(∀A:Around,A.handled=none→WalksS prog w A I fp [I] GE es.size (fun i v=>vs[i]?=some v) St)∧St 0 s∧(∀b∈fp,b<s.heap.objs.size)∧I∈fp∧s.TypeIs (.ref I) "set_iterator"∧
    (∀b o,s0.heap.get? b=some o→s.heap.get? b=some o)∧s0.heap.objs.size≤I∧s.gens=s0.gens∧s.os=s0.os∧s0.toks≤s.toks∧∀b∈fp,b=S∨s0.heap.objs.size≤b
theorem yew {xs:Array Nat} (h:xs.size≤1):Rise xs:=by
  unfold Rise
  rw [←Array.length_toList] at h
  match xs.toList,h with
  | [],_=>exact .nil
  | [x],_=>exact List.pairwise_singleton _ _
theorem zfZ {S:Addr} {o:Obj} {es:Array (Int×Value)} {ep:Nat} {t:SetTable} {Q:Value→Shared→Prop} (ho:s.heap.get? S=some o) (hc:o.cls = .type "set") (hd:o.data = .set es ep t) (hf:t.fits es.size=true) (hb:es.size<scanBound) (hG:TabG (!ya0 w) t)
    (hQ:∀I s',zg4 prog w S es s s' I→Q (.ref I) s'):wpAny (model prog w) A (pyIter (.ref S)) Q E s:=by
  have hT:s.TypeIs (.ref S) "set":=⟨o,ho,hc⟩
  have hSlt:=Heap.lt_size ho
  have hz:t.place.size=es.size:=by
    have:=hf
    unfold SetTable.fits at this
    simp only [Bool.and_eq_true,beq_iff_eq] at this
    exact this.1
  refine wpAny_pyIter_slot hT F.slot_set_iter (wpAny_call_entry F.slot_set_iter hT zcC ?_ (F.args_set_iter_1 _))
  unfold Builtin.«frozenset.__iter__» Builtin.Frozenset.slot0 Builtin.Frozenset.sizeOf
  refine wpAny_bind (wpAny_of_eq (a:=S) rfl ?_)
  refine wpAny_bind (wpAny_bind (wpAny_setEntries_of ho hd hf (wpAny_pure ?_)))
  unfold setDrawn setsByText
  refine wpAny_bind (wpAny_bind (wpAny_setState_of ho hd hf ?_))
  dsimp only
  refine wpAny_bind (wpAny_bind (wpAny_askSetting (wpAny_pure (wpAny_pure ?_))))
  refine wpAny_ite_split (fun h=>?_) (fun h=>?_)
  · have h':(!ya0 w&&(!t.plain&&decide (es.size>1)))=true:=h
    refine wpAny_bind (zdw _ _ _ _ List.length_range fun ps d' hps=>?_)
    have hlen:ps.length=es.size:=by rw [hps.length_eq,List.length_range]
    refine wpAny_bind (wpAny_newTuple ?_ (by rw [List.length_map,hlen];exact fits_of_scanBound hb))
    have o1:(s.heap.push { cls:=.type "tuple",data:=.seq (ps.map fun (p:Nat)=>rawInt p).toArray }).get? S=some o:=Heap.get?_push_of_some _ ho
    unfold setEpoch
    refine wpAny_bind (wpAny_bind (wpAny_setState_of o1 hd hf (wpAny_pure ?_)))
    unfold newFields
    refine wpAny_bind (wpAny_newObj_type ?_ (by size_fits))
    refine wpAny_pure ⟨_,rfl,"set_iterator",_,⟨_,Heap.get?_push_size _ rfl,rfl⟩,zal.lookup,hQ _ _ ?_⟩
    have hI:(s.heap.push { cls:=.type "tuple",data:=.seq (ps.map fun (p:Nat)=>rawInt p).toArray }).objs.size=s.heap.objs.size+1:=Heap.size_push _ _
    have e2:∀b o',s.heap.get? b=some o'→((s.heap.push { cls:=.type "tuple",data:=.seq (ps.map fun (p:Nat)=>rawInt p).toArray }).push { cls:=.type "set_iterator",data:=.fields #[.ref s.heap.objs.size,rawInt 0,.ref S,rawInt es.size,rawInt ep] }).get? b=some o':=fun b o' e=>Heap.get?_push_of_some _ (Heap.get?_push_of_some _ e)
    refine ⟨_,[(s.heap.push { cls:=.type "tuple",data:=.seq (ps.map fun (p:Nat)=>rawInt p).toArray }).objs.size,S,s.heap.objs.size],_,zeB hps,fun A hh=>yel (t:=t) (ep:=ep) hh ?_ ?_ hps,⟨⟨_,Heap.get?_push_size _ rfl,rfl,rfl⟩,⟨o,e2 S o ho,hd,hf⟩,⟨_,Heap.get?_push_of_some _ (Heap.get?_push_size _ rfl),rfl,0,rfl⟩⟩,?_,by simp,⟨_,Heap.get?_push_size _ rfl,rfl⟩,e2,?_,rfl,rfl,Nat.le_refl _,?_⟩
    · rw [hI];exact Nat.ne_of_lt (Nat.lt_succ_of_lt hSlt)
    · rw [hI];exact Nat.ne_of_lt (Nat.lt_succ_self _)
    · intro b hb
      simp only [List.mem_cons,List.not_mem_nil,or_false] at hb
      show b<((s.heap.push _).push _).objs.size
      rw [Heap.size_push,hI]
      rcases hb with rfl|rfl|rfl
      · rw [hI];exact Nat.lt_succ_self _
      · exact Nat.lt_succ_of_lt (Nat.lt_succ_of_lt hSlt)
      · exact Nat.lt_succ_of_lt (Nat.lt_succ_self _)
    · show s.heap.objs.size≤(s.heap.push _).objs.size
      rw [hI];exact Nat.le_succ _
    · intro b hb
      simp only [List.mem_cons,List.not_mem_nil,or_false] at hb
      rcases hb with rfl|rfl|rfl
      · right;rw [hI];exact Nat.le_succ _
      · exact .inl rfl
      · exact .inr (Nat.le_refl _)
  · have h':¬ (!ya0 w&&(!t.plain&&decide (es.size>1)))=true:=h
    refine wpAny_bind (wpAny_pure ?_)
    unfold setEpoch
    refine wpAny_bind (wpAny_bind (wpAny_setState_of ho hd hf (wpAny_pure ?_)))
    unfold newFields
    refine wpAny_bind (wpAny_newObj_type ?_ (by size_fits))
    refine wpAny_pure ⟨_,rfl,"set_iterator",_,⟨_,Heap.get?_push_size _ rfl,rfl⟩,zal.lookup,hQ _ _ ?_⟩
    have e2:∀b o',s.heap.get? b=some o'→(s.heap.push { cls:=.type "set_iterator",data:=.fields #[rawInt 0,rawInt 0,.ref S,rawInt es.size,rawInt ep] }).get? b=some o':=fun b o' e=>Heap.get?_push_of_some _ e
    have hin:∀b∈[s.heap.objs.size,S],b<(s.heap.push { cls:=.type "set_iterator",data:=.fields #[rawInt 0,rawInt 0,.ref S,rawInt es.size,rawInt ep] }).objs.size:=by
      intro b hb
      simp only [List.mem_cons,List.not_mem_nil,or_false] at hb
      rw [Heap.size_push]
      rcases hb with rfl|rfl
      · exact Nat.lt_succ_self _
      · exact Nat.lt_succ_of_lt hSlt
    have hin2:∀b∈[s.heap.objs.size,S],b=S∨s.heap.objs.size≤b:=by
      intro b hb
      simp only [List.mem_cons,List.not_mem_nil,or_false] at hb
      rcases hb with rfl|rfl
      · exact .inr (Nat.le_refl _)
      · exact .inl rfl
    by_cases hbt:ya0 w=true
    · exact ⟨_,[s.heap.objs.size,S],_,(ycp (w.params.setOrder S ep) es).map _,fun A hh=>zfn (t:=t) (ep:=ep) hh (Nat.ne_of_lt hSlt) hbt,⟨⟨_,Heap.get?_push_size _ rfl,rfl,rfl⟩,⟨o,e2 S o ho,hd,hf⟩⟩,hin,by simp,⟨_,Heap.get?_push_size _ rfl,rfl⟩,e2,Nat.le_refl _,rfl,rfl,Nat.le_refl _,hin2⟩
    · have hbf:ya0 w=false:=by simpa using hbt
      have hled:t.led=true:=by rw [hG.led,hbf];rfl
      have hp:t.plain=true∨es.size≤1:=by
        rw [hbf] at h'
        cases hpl:t.plain
        · rw [hpl] at h'
          simp at h'
          exact .inr h'
        · exact .inl rfl
      have hr:Rise t.place:=by
        rcases hp with hp|hp
        · exact hG.rise hp
        · exact yew (by omega)
      exact ⟨_,[s.heap.objs.size,S],_,List.Perm.refl _,fun A hh=>zem (t:=t) (ep:=ep) hh (Nat.ne_of_lt hSlt) hbf hled hp hr hz,⟨⟨_,Heap.get?_push_size _ rfl,rfl,rfl⟩,⟨o,e2 S o ho,hd,hf⟩⟩,hin,by simp,⟨_,Heap.get?_push_size _ rfl,rfl⟩,e2,Nat.le_refl _,rfl,rfl,Nat.le_refl _,hin2⟩
end
end L2
end
section
-- text: ExtR
set_option Elab.async false
set_option linter.all false
set_option maxRecDepth 100000
set_option maxHeartbeats 4000000
namespace L2
open PySem PyProof.Rows
theorem zdq:typeLookup (.type "set") "__len__"=pure (some (.builtin "set.__len__")):=by rw [typeLookup_type,builtinLookup_eq_fast];kernel_rfl
section
variable {prog:Program} {w:World} {A:Around} {E:Value→Shared→Prop} {s:Shared}
structure Left (s s':Shared):Prop where
  heap:∀b o,s.heap.get? b=some o→s'.heap.get? b=some o
  gens:s'.gens=s.gens
  os:s'.os=s.os
  toks:s.toks≤s'.toks
  size:s.heap.objs.size≤s'.heap.objs.size
theorem yfR {vs:List Value} {n:Nat} {acc:Array Value} (hn:vs.length=n) (h:ItemsOf (fun i v=>vs[i]?=some v) acc n):acc.toList=vs:=by
  refine List.ext_getElem? fun i=>?_
  by_cases c:i<n
  · have h1:acc[i]?=some (acc[i]'(by rw [h.1];exact c)):=Array.getElem?_eq_getElem _
    rw [Array.getElem?_toList,h1]
    exact (h.2 i _ h1).symm
  · rw [Array.getElem?_toList,Array.getElem?_eq_none (by rw [h.1];lia),List.getElem?_eq_none (by lia)]
theorem ydX {S:Addr} {o:Obj} {es:Array (Int×Value)} {ep:Nat} {t:SetTable} {Q:List Value→Shared→Prop} (hh:A.handled=none) (ho:s.heap.get? S=some o) (hc:o.cls = .type "set") (hd:o.data = .set es ep t) (hf:t.fits es.size=true) (hb:es.size<scanBound) (hG:TabG (!ya0 w) t)
    (hQ:∀vs s',vs.Perm (es.toList.map (·.2))→Left s s'→Q vs s'):wpAny (model prog w) A (collect (.ref S)) Q E s:=by
  have hSlt:=Heap.lt_size ho
  unfold collect
  refine wpAny_bind (wpAny_runValue (codeAny_builtin F.entry_proto_collect ?_))
  rw [Around.under_plainId F.plain_proto_collect _]
  show wpAny _ A.in1 (newList [] >>= fun l=>again (.builtin "list.__iadd__" ⟨[l,.ref S],[]⟩)) _ _ s
  refine wpAny_bind (wpAny_newObj_type ?_)
  refine wpAny_pure ⟨plainId_quiet F.plain_list_iadd _,codeAny_builtin F.entry_list_iadd ?_⟩
  rw [Around.under_plainId F.plain_list_iadd _]
  have ho1:(s.heap.push { cls:=.type "list",data:=.seq ([]:List Value).toArray }).get? S=some o:=Heap.get?_push_of_some _ ho
  have hS1:(s.heap.push { cls:=.type "list",data:=.seq ([]:List Value).toArray }).get? s.heap.objs.size=some { cls:=.type "list",data:=.seq ([]:List Value).toArray }:=Heap.get?_push_size _ rfl
  have h1:Builtin.List.listSameRef (.ref s.heap.objs.size) (.ref S)=false:=by simp [Builtin.List.listSameRef];exact Nat.ne_of_gt hSlt
  show wpAny _ A.in1 (Builtin.List.listExtendWith (.ref s.heap.objs.size) (.ref S) (.ref s.heap.objs.size)) _ _ _
  unfold Builtin.List.listExtendWith
  refine wpAny_bind (wpAny_typeOf (T:="set") ⟨o,ho1,hc⟩ ?_)
  rw [if_neg (by rw [h1];decide)]
  refine wpAny_bind (zfZ ho1 hc hd hf hb hG fun I s2 ⟨vs,fp,St,hp,hW,hst,hfp,hI,hT,hk,hge,hg,hos,htk,hfs⟩=>?_)
  have ho2:=hk S o ho1
  have hS2:=hk _ _ hS1
  refine wpAny_bind (wpAny_holding ?_)
  unfold Builtin.List.listLengthHint
  refine wpAny_bind (wpAny_specialOf (T:="set") ⟨o,ho2,hc⟩ zdq ?_)
  (generalize hid:("set.__len__":String)=id0;(fail_if_success (clear hid id0));wp_delta;rw [show splitId id0=some ("set","__len__") from by subst hid;decide +kernel];subst hid)
  refine wpAny_bind (wpAny_isInstance (T:="set") (b:=true) ⟨o,ho2,hc⟩ (by rw [isSubtype_type];kernel_rfl) ?_)
  refine wpAny_ite_split (fun h=>absurd h (by decide)) (fun _=>?_)
  refine wpAny_ite_split (fun _=>?_) (fun h=>(h (by decide +kernel)).elim)
  refine wpAny_bind (wpAny_typeOf (T:="set") ⟨o,ho2,hc⟩ ?_)
  refine wpAny_pure ?_
  refine wpAny_ite_split (fun _=>?_) (fun h=>(h (by decide +kernel)).elim)
  refine wpAny_bind (wpAny_rule ?_)
  refine wpAny_bind ?_
  show wpAny _ A.in1 (updateSeq s.heap.objs.size (·.push .none) >>= fun _=>updateSeq s.heap.objs.size (·.pop)) _ _ _
  refine wpAny_bind (wpAny_updateSeq hS2 rfl ?_)
  have hS3:=Heap.get?_update_self (Obj.mapSeq (·.push Value.none)) hS2 rfl
  refine wpAny_updateSeq hS3 rfl ?_
  have hS4:=Heap.get?_update_self (Obj.mapSeq (·.pop)) hS3 rfl
  have hlt:s.heap.objs.size<I:=by
    have:=hge
    rw [show (s.heap.push { cls:=.type "list",data:=.seq ([]:List Value).toArray }).objs.size=s.heap.objs.size+1 from Heap.size_push _ _] at this
    exact this
  have W:=hW A.in1 hh
  have hSf:s.heap.objs.size∉fp:=fun hm=>by
    rcases hfs _ hm with h|h
    · exact absurd h (Nat.ne_of_gt hSlt)
    · rw [show (s.heap.push { cls:=.type "list",data:=.seq ([]:List Value).toArray }).objs.size=s.heap.objs.size+1 from Heap.size_push _ _] at h
      exact absurd h (Nat.not_succ_le_self _)
  have oth:∀b o',b≠s.heap.objs.size→s2.heap.get? b=some o'→((s2.heap.update s.heap.objs.size (Obj.mapSeq (·.push Value.none))).update s.heap.objs.size (Obj.mapSeq (·.pop))).get? b=some o' :=
    fun b o' hb e=>(Heap.get?_update_other _ _ (Ne.symm hb)).trans ((Heap.get?_update_other _ _ (Ne.symm hb)).trans e)
  have hlen:vs.length=es.size:=by rw [hp.length_eq,List.length_map,Array.length_toList]
  refine wpAny_pure ⟨plainId_quiet F.plain_extend_loop _,codeAny_extend_loopS W (fits_of_scanBound hb) _ hSf _ es.size 0 _ _ _ rfl (Nat.zero_le _)
    (W.frame 0 s2 _ s2.toks hst (Nat.le_refl _) fun b hb o e=>oth b o (fun h=>hSf (h ▸ hb)) e) hS4 (ItemsOf.nil _) fun s' acc' c' hm hS' hacc=>?_⟩
  show wpAny _ A (load s.heap.objs.size >>= _) _ _ s'
  refine wpAny_bind (wpAny_load hS' ?_)
  refine wpAny_pure ?_
  rw [yfR hlen hacc]
  refine hQ vs s' hp ⟨fun b o' e=>?_,?_,?_,?_,Nat.le_of_lt (Heap.lt_size hS')⟩
  · have hb:=Heap.lt_size e
    refine hm.heap b o' ?_ (oth b o' (Nat.ne_of_lt hb) (hk b o' (Heap.get?_push_of_some _ e)))
    simp only [List.mem_cons,List.not_mem_nil,or_false,not_or]
    exact ⟨Nat.ne_of_lt hb,Nat.ne_of_lt (Nat.lt_trans hb hlt)⟩
  · exact hm.gens.trans hg
  · exact hm.os.trans hos
  · exact Nat.le_trans htk hm.toks
end
end L2
end
section
-- text: ExtS
set_option Elab.async false
set_option linter.all false
set_option maxRecDepth 100000
set_option maxHeartbeats 4000000
namespace L2
open PySem PyProof.Rows
theorem zcn {α:Type} [BEq α] [LawfulBEq α]:∀ {σ τ:List α},σ.Nodup→(∀x∈σ,x∈τ)→σ.length≤τ.length
  | [],_,_,_=>Nat.zero_le _
  | x::σ,τ,h,hs=>by
    have hx:x∈τ:=hs x List.mem_cons_self
    have h2:=List.nodup_cons.mp h
    have:=zcn (σ:=σ) (τ:=τ.erase x) h2.2 fun y hy=>(List.mem_erase_of_ne (fun e=>h2.1 (by rw [←e];exact hy))).mpr (hs y (List.mem_cons_of_mem _ hy))
    rw [List.length_erase_of_mem hx] at this
    have hp:0 < τ.length:=List.length_pos_of_mem hx
    simp only [List.length_cons]
    omega
theorem zcJ {α:Type} [BEq α] [LawfulBEq α]:∀ {σ τ:List α},σ.Nodup→(∀x∈σ,x∈τ)→τ.length≤σ.length→σ.Perm τ
  | [],τ,_,_,hl=>by
    have:τ=[]:=List.length_eq_zero_iff.mp (by simpa using hl)
    rw [this]
  | x::σ,τ,h,hs,hl=>by
    have hx:x∈τ:=hs x List.mem_cons_self
    have h2:=List.nodup_cons.mp h
    have ih:=zcJ (σ:=σ) (τ:=τ.erase x) h2.2 (fun y hy=>(List.mem_erase_of_ne (fun e=>h2.1 (by rw [←e];exact hy))).mpr (hs y (List.mem_cons_of_mem _ hy))) (by rw [List.length_erase_of_mem hx];simp at hl;omega)
    exact (List.Perm.cons x ih).trans (List.perm_cons_erase hx).symm
theorem za5 (val:Nat→Int):∀i,(firstMet val i).Nodup
  | 0=>List.nodup_nil
  | i+1=>by
    rw [firstMet_succ]
    unfold step_dedup
    split
    · exact za5 val i
    · rename_i hn
      refine List.nodup_append.mpr ⟨za5 val i,by simp,fun a ha b hb=>?_⟩
      rw [List.mem_singleton] at hb
      intro e
      exact hn (List.any_eq_true.mpr ⟨a,ha,by rw [e,hb];exact beq_self_eq_true _⟩)
theorem zbq (ns:List Int) (k:Int):k∈firstMet (fun i=>ns.getD i 0) ns.length↔k∈ns:=by
  have h:=firstMet_any (fun i=>ns.getD i 0) ns.length k
  have e:(List.range ns.length).map (fun i=>ns.getD i 0)=ns:=by
    apply List.ext_getElem
    · simp
    · intro i h1 h2
      simp [List.getD,h2]
  rw [e] at h
  have c:∀l:List Int,l.any (·==k)=true↔k∈l:=fun l=>by
    rw [List.any_eq_true]
    exact ⟨fun ⟨x,hx,q⟩=>by rw [←eq_of_beq q];exact hx,fun hk=>⟨k,hk,beq_self_eq_true _⟩⟩
  rw [←c,←c,h]
section
variable {prog:Program} {w:World} {A:Around} {E:Value→Shared→Prop} {s:Shared}
theorem zcP:∀ {vs:List Value},(∀v∈vs,∃k t,v = .int k t)→∃ns,IntsAre vs ns∧∀k,k∈ns↔∃v∈vs,∃t,v = .int k t
  | [],_=>⟨[],.nil,fun k=>⟨fun h=>(nomatch h),fun ⟨v,h,_⟩=>(nomatch h)⟩⟩
  | v::vs,h=>by
    obtain ⟨ns,hn,hm⟩:=zcP fun v' hv=>h v' (List.mem_cons_of_mem _ hv)
    obtain ⟨k,t,rfl⟩:=h v List.mem_cons_self
    refine ⟨k::ns,.cons k t hn,fun k'=>⟨fun hk=>?_,fun ⟨v',hv,t',e⟩=>?_⟩⟩
    · rcases List.mem_cons.mp hk with rfl|hk
      · exact ⟨_,List.mem_cons_self,t,rfl⟩
      · obtain ⟨v',hv,t',e⟩:=(hm k').mp hk
        exact ⟨v',List.mem_cons_of_mem _ hv,t',e⟩
    · rcases List.mem_cons.mp hv with rfl|hv
      · cases e;exact List.mem_cons_self
      · exact List.mem_cons_of_mem _ ((hm k').mpr ⟨v',hv,t',e⟩)
theorem zen {S:Addr} {Sm:Int→Bool} {n:Nat} {Q:Value→Shared→Prop} (hh:A.handled=none) (hS:SetG w prog s.heap S Sm n) (h64:n<64)
    (hQ:∀(h':Heap) (d':Drawn) (tk:Nat) (L:Addr) (ns':List Int) (out:Array Value) (e:Nat),IntsAre out.toList ns'→ns'.length=n→(∀k,k∈ns'↔Sm k=true)→ns'.Pairwise (·≤·)→(∀b o,s.heap.get? b=some o→h'.get? b=some o)→s.heap.objs.size≤L→
      h'.get? L=some (seqObj "list" out e)→Q (.ref L) { heap:=h',gens:=s.gens,drawn:=d',toks:=tk,os:=s.os }) :
    wpAny (model prog w) A (call (.builtin "sorted") [.ref S]) Q E s:=by
  obtain ⟨o,es,ep,t,ho,hex,hd,hel,hmem,hb,hf,hn,hG⟩:=hS
  refine Calls.call_function_entry kind_sorted plain_sorted entry_sorted (args_sorted1 _) ?_
  unfold Builtin.«sorted»
  refine wpAny_bind (m:=checkCount "sorted" 1 1 _) (wpAny_pure ?_)
  refine wpAny_bind (ydX (by simp [hh]) ho hex.1 hd hf hb hG fun vs s2 hp hL=>?_)
  have hall:∀v∈vs,∃k t,v = .int k t:=fun v hv=>by
    obtain ⟨e,he,rfl⟩:=List.mem_map.mp (hp.mem_iff.mp hv)
    obtain ⟨⟨k,hk,_⟩,_⟩:=hel e he
    obtain ⟨t,ht⟩:=Value.isInt_shape hk
    exact ⟨k,t,ht⟩
  obtain ⟨ns,hI,hm⟩:=zcP hall
  have hl:vs.length=n:=by rw [hp.length_eq,List.length_map,Array.length_toList,hn]
  refine wpAny_bind (wpAny_newList ?_)
  have hoL:(s2.heap.push (seqObj "list" vs.toArray 0)).get? s2.heap.objs.size=some (seqObj "list" vs.toArray 0):=Heap.get?_push_size _ rfl
  refine wpAny_bind (wpAny_holding (wpAny_call_entry slot_list_sort ⟨_,hoL,rfl⟩ entry_list_sort (list_sort_tree hoL hI (by omega) fun out ns' a1 a2 a3=>⟨_,rfl,?_⟩) (args_list_sort _)))
  refine wpAny_pure ⟨_,rfl,?_⟩
  obtain ⟨e,he⟩:=sortedHeap_at (out:=out) hoL
  have hle:=hL.size
  have hk:=hL.heap
  have hg:=hL.gens
  have hos:=hL.os
  obtain ⟨h2,g2,d2,t2,o2⟩:=s2
  dsimp only at hg hos
  subst hg;subst hos
  refine hQ _ _ _ _ ns' out e a1 ?_ ?_ a3 (fun b ob eb=>?_) hle he
  · rw [a2.length_eq,←IntsAre.length hI];exact hl
  · intro k
    rw [a2.mem_iff,hm,hmem]
    constructor
    · rintro ⟨v,hv,t',rfl⟩
      obtain ⟨e',he',q⟩:=List.mem_map.mp (hp.mem_iff.mp hv)
      exact ⟨e',he',by rw [q];exact intKind_is _ _ _ _⟩
    · rintro ⟨e',he',q⟩
      obtain ⟨t',ht⟩:=Value.isInt_shape q
      exact ⟨e'.2,hp.mem_iff.mpr (List.mem_map_of_mem he'),t',ht⟩
  · have hlt:=Heap.lt_size (hk b ob eb)
    rw [sortedHeap_old (Nat.ne_of_lt hlt) (by rw [show (h2.push (seqObj "list" vs.toArray 0)).objs.size=h2.objs.size+1 from Heap.size_push _ _];exact Nat.lt_succ_of_lt hlt)]
    exact Heap.get?_push_of_some _ (hk b ob eb)
end
end L2
end
section
-- text: ExtT
set_option Elab.async false
set_option linter.all false
set_option maxRecDepth 100000
set_option maxHeartbeats 4000000
namespace L2
open PySem PyProof.Rows
theorem zdS:bootBuiltins "set"=some (.type "set"):=by decide +kernel
theorem ybF:bootBuiltins "sorted"=some (.builtin "sorted"):=by decide +kernel
section
variable {X:Cx}
theorem Inv.redraw {pins:List (Addr×Obj)} {σ:St} {H:Hp} {s s':Shared} (I:Inv X pins σ H s) (h1:s'.heap=s.heap) (h2:s'.gens=s.gens) (h3:s'.os=s.os):Inv X pins σ H s' :=
  ⟨I.ok,by rw [h3];exact I.os,by rw [h2];exact I.bare,by rw [h1];exact I.base,by rw [h1];exact I.loc,by rw [h1];exact I.cell,I.free,I.freeC,by rw [h1];exact I.pin,by rw [h1];exact I.hok,I.len⟩
theorem Inv.more {pins:List (Addr×Obj)} {σ:St} {H:Hp} {s:Shared} {h':Heap} {tk:Nat} (I:Inv X pins σ H s) (k:∀b o,s.heap.get? b=some o→h'.get? b=some o):Inv X pins σ H { s with heap:=h',toks:=tk } :=
  I.turnedL (fp:=[]) (fun b hb=>nomatch hb) fun b o _ e=>k b o e
noncomputable def yfM (K:PySem.W.Frag) (te:TE):TE:=fun σ H Q=>te σ H fun x H1=>∃(a:Addr) (ns:List Int),x = .ref a∧SqL K H1 a (ns.map V.int)∧ns.length<4000∧(∀ks:List Int,ks.Nodup→(∀k∈ks,k∈ns)→ks.length<64)∧
  ∀(l:Addr) (ns':List Int),H1 l=none→ns'.Pairwise (· < ·)→(∀k,k∈ns'↔k∈ns)→Q (.ref l) (upd H1 l (.lst (ns'.map V.int)))
theorem zex {e:Expr} {te:TE} {p1 p2 pos pos2:Pos} (hc:X.calm=true) (hg1:Gl X "sorted") (hm1:X.mg "sorted"=none) (hg2:Gl X "set") (hm2:X.mg "set"=none) (he:PE X e te)
    (hs:starEach [e] X.env=[(false,eval e X.env)]:=by rfl) (hs2:starEach [.Call (.Name "set" p2) [e] [] pos2] X.env=[(false,eval (.Call (.Name "set" p2) [e] [] pos2) X.env)]:=by rfl) :
    PE X (.Call (.Name "sorted" p1) [.Call (.Name "set" p2) [e] [] pos2] [] pos) (yfM X.K te):=by
  intro pins s σ H Q I h
  refine wpAny_Call_Name_kw (zbG I hg1 hm1 ybF ?_ (by decide) (by decide))
  refine PyProof.Rows.callWith_builtin1 ?_ hs2 rfl
  rw [hs2]
  show wpAny _ _ (spliced ((false,eval (.Call (.Name "set" p2) [e] [] pos2) X.env)::[])) _ _ s
  refine Calls.spliced_cons ?_
  refine wpAny_Call_Name_kw (zbG I hg2 hm2 zdS ?_ (by decide) (by decide))
  refine PyProof.Rows.callWith_type1 ?_ hs rfl
  rw [hs]
  show wpAny _ _ (spliced ((false,eval e X.env)::[])) _ _ s
  refine Calls.spliced_cons (thn (he pins s σ H _ I h) fun u s1 ⟨x,H1,I1,r1,a,ns,ex,ha,hl,h64,q⟩=>?_)
  subst ex
  cases r1
  refine Calls.spliced_nil ?_
  obtain ⟨its,r2,p2,z2⟩:=I1.list ha
  have hlen:=r2.length
  rw [List.length_map] at hlen
  have hh:=I1.ok.hd hc
  refine yez hh p2.isList (by simpa using zca r2) (by rw [List.size_toArray];unfold scanBound;lia) fun h2 tk2 hS hk=>?_
  refine Calls.spliced_nil ?_
  have I2:Inv X pins σ H1 { s1 with heap:=h2,toks:=tk2 }:=I1.more hk
  have hsz:its.toArray.size=ns.length:=by rw [List.size_toArray,hlen]
  rw [hsz] at hS
  have hfm:=za5 (fun i=>ns.getD i 0) ns.length
  refine zen (s:={ s1 with heap:=h2,toks:=tk2 }) hh hS (h64 _ hfm fun k hk=>(zbq ns k).mp hk) fun h3 d3 tk3 L ns' out e3 b1 b2 b3 b4 b5 b6 b7=>?_
  have hmem:∀k,k∈ns'↔k∈firstMet (fun i=>ns.getD i 0) ns.length:=fun k=>by
    rw [b3]
    constructor
    · intro h
      obtain ⟨y,hy,q⟩:=List.any_eq_true.mp h
      rw [←eq_of_beq q];exact hy
    · intro h;exact List.any_eq_true.mpr ⟨k,h,beq_self_eq_true _⟩
  have hnd:ns'.Nodup:=(zcJ hfm (fun k hk=>(hmem k).mpr hk) (by rw [b2];exact Nat.le_refl _)).nodup_iff.mp hfm
  have hlt:ns'.Pairwise (· < ·):=by
    refine List.Pairwise.imp₂ (fun a b h1 h2=>?_) b4 hnd
    lia
  have r3:Vals (ns'.map V.int) out.toList:=zbv b1
  have I3:Inv X pins σ (upd H1 L (.lst (ns'.map V.int))) { s1 with heap:=h3,toks:=tk3 }:=I2.laid (a:=L) (t':=tk3) (o:=.lst (ns'.map V.int)) b5 b6 ⟨?_,out.toList,e3,r3,?_⟩
  · refine ⟨.ref L,_,I3.redraw rfl rfl rfl,rfl,q L ns' (I2.hok.fresh b6) hlt fun k=>(hmem k).trans (zbq ns k)⟩
  · rw [List.length_map,b2]
    have:=h64 _ hfm fun k hk=>(zbq ns k).mp hk
    have:=sizeLine_eq
    lia
  · rw [b7]
end
end L2
end
section
-- text: ExtU
set_option Elab.async false
set_option linter.all false
set_option maxRecDepth 100000
set_option maxHeartbeats 4000000
namespace L2
open PySem PySem.Spec PyProof.Rows
section
variable {X:Cx}
noncomputable def yhn (K:PySem.W.Frag):List V→Hp→VK→Prop:=fun vs H Q=>∃(a:Addr) (ns:List Int),vs=[.ref a]∧SqL K H a (ns.map V.int)∧0<ns.length∧∀M,M∈ns→(∀a∈ns,a≤M)→Q (.int M) H
theorem zeI (hc:X.calm=true):ybE X (.builtin "max") (yhn X.K):=by
  intro pins s σ H xs us Q I r h
  obtain ⟨a,ns,rfl,ha,hl,q⟩:=h
  obtain ⟨u,rfl,rx⟩:=yb1 r
  cases rx
  obtain ⟨its,r1,p1,z1⟩:=I.list ha
  have hi:IntsAre its ns:=zca r1
  have hlist:=p1.isList
  obtain ⟨ys,e⟩:=hi.allInts.items
  have hns:ns=ys.toList.map (·.1):=by rw [←hi.numsOf,←nums_intItems,←e]
  have hsz:0<ys.size:=by
    have h3:=hl;rw [hns,List.length_map,Array.length_toList] at h3;exact h3
  rw [e] at hlist
  refine max_intList (I.ok.hd hc) hlist hsz fun v h' tk hv hk=>?_
  obtain ⟨t,rfl⟩:=intItems_at hv
  obtain ⟨h1,h2⟩:=argBest_gt (numAt ys) (ys.size-1)
  refine ⟨.int _,H,I.more (fun b o eb=>hk b o eb),zfA _ _,q _ ?_ fun b hb=>?_⟩
  · rw [hns,numAt_eq];exact getD_mem (by rw [List.length_map,Array.length_toList];omega)
  · rw [hns] at hb
    obtain ⟨j,hj,rfl⟩:=mem_getD hb
    rw [List.length_map,Array.length_toList] at hj
    rw [←numAt_eq];exact h2 j (by omega)
end
end L2
end
section
-- text: ExtV
set_option Elab.async false
set_option linter.all false
set_option maxRecDepth 100000
set_option maxHeartbeats 4000000
namespace HT
open PySem PyProof.Rows
end HT
namespace L2
open PySem PyProof.Rows
end L2
end
section
-- text: ExtW
set_option Elab.async false
set_option linter.all false
set_option maxRecDepth 100000
set_option maxHeartbeats 4000000
namespace HT
open PySem PyProof.Rows
end HT
namespace L2
open PySem PyProof.Rows
end L2
end
section
-- text: ExtX
set_option Elab.async false
set_option linter.all false
set_option maxRecDepth 100000
set_option maxHeartbeats 4000000
namespace L2
open PySem PySem.Spec PyProof.Rows
end L2
end
section
-- text: ExtY
set_option Elab.async false
set_option linter.all false
set_option maxRecDepth 100000
set_option maxHeartbeats 4000000
namespace L2
open PySem PySem.Spec PyProof.Rows
end L2
namespace L2
open PySem PySem.Spec PyProof.Rows
end L2
end
section
-- text: ExtZ
set_option Elab.async false
set_option linter.all false
set_option maxRecDepth 100000
set_option maxHeartbeats 4000000
namespace L2
open PySem PySem.Spec PyProof.Rows
noncomputable def RdN (K:PySem.W.Frag) (H:Hp):Nat→V→PyData→Prop
  | 0,_,_=>False
  | n+1,v,d=>(∃i:Int,v = .int i∧d = .int i)∨∃(a:Addr) (xs:List V) (ds:List PyData),v = .ref a∧d = .tuple ds∧SqT K H a xs∧xs.length=ds.length∧∀(i:Nat) x e,xs[i]?=some x→ds[i]?=some e→RdN K H n x e
theorem zbI {h:Heap}:∀ {us:List Value} {ds:List PyData},us.length=ds.length→(∀(i:Nat) u e,us[i]?=some u→ds[i]?=some e→Reads h u e [])→ReadsAll h us ds []
  | [],[],_,_=>.nil
  | [],_::_,hl,_=>by cases hl
  | _::_,[],hl,_=>by cases hl
  | u::us,d::ds,hl,hr=>by
    have h1:=hr 0 u d rfl rfl
    have h2:=zbI (us:=us) (ds:=ds) (by simpa using hl) fun i u' e hu he=>hr (i+1) u' e hu he
    exact .cons (as:=[]) (bs:=[]) h1 h2
section
variable {X:Cx}
theorem yee {pins:List (Addr×Obj)} {σ:St} {H:Hp} {s:Shared} (I:Inv X pins σ H s):∀(n:Nat) (x:V) (d:PyData) (u:Value),RdN X.K H n x d→RelV x u→Reads s.heap u d []
  | 0,_,_,_,h,_=>h.elim
  | n+1,x,d,u,h,r=>by
    rcases h with ⟨i,rfl,rfl⟩ | ⟨a,xs,ds,rfl,rfl,ha,hl,hx⟩
    · obtain ⟨t,rfl⟩:=r
      exact .int i t
    · cases r
      obtain ⟨us,r1,⟨o,ho,hc,k,hd⟩,z1⟩:=I.tuple ha
      have l1:=r1.length
      refine .tuple ho hc hd (zbI (by simp;lia) fun i u e hu he=>?_)
      have hi:=(List.getElem?_eq_some_iff.mp hu).1
      obtain ⟨x1,e1,q1⟩:=zd6 r1 (i:=i) (by simpa using hi)
      have eu:us.toArray[i]'(by simpa using hi)=u:=by
        have:=(List.getElem?_eq_some_iff.mp hu).2
        simpa using this
      rw [eu] at q1
      exact yee I n x1 e u (hx i x1 e e1 he) q1
end
structure DOk (d:PyData) (w:Nat):Prop where
  sh:d.showable=true
  nd:d.hasDict=false
  dp:d.depth≤40
  sl:d.leavesShort 8=true
  we:d.weight≤w
theorem yc7 {K:PySem.W.Frag} {H:Hp} {a:Addr} {ns:List Nat} {k:Nat} (h:SqT K H a (ns.map fun n:Nat=>V.int (n:Int))):RdN K H (k+2) (.ref a) (.tuple (ns.map fun n:Nat=>PyData.int (n:Int))):=by
  refine .inr ⟨a,_,_,rfl,rfl,h,by simp,fun i x e hx he=>.inl ?_⟩
  rw [List.getElem?_map] at hx he
  cases q:ns[i]? with
  | none=>rw [q] at hx;cases hx
  | some n=>rw [q] at hx he;cases hx;cases he;exact ⟨_,rfl,rfl⟩
end L2
end
section
-- text: ExtRa
set_option Elab.async false
set_option linter.all false
set_option maxRecDepth 100000
set_option maxHeartbeats 4000000
namespace L2
open PySem PySem.Spec PyProof.Rows
end L2
end
section
-- text: ExtRb
set_option Elab.async false
set_option linter.all false
set_option maxRecDepth 100000
set_option maxHeartbeats 4000000
namespace L2
open PySem PySem.Spec PyProof.Rows
end L2
end
section
-- text: ExtRc
set_option Elab.async false
set_option linter.all false
set_option maxRecDepth 100000
set_option maxHeartbeats 4000000
namespace L2
open PySem PySem.Spec PyProof.Rows
end L2
end
section
-- text: MathA
set_option linter.all false
set_option autoImplicit false
namespace Dg
noncomputable def dg (p i x:Nat):Nat:=x/p^i%p
theorem zbo (p x:Nat):dg p 0 x=x%p:=by simp [dg]
theorem ybn (p i x:Nat):dg p (i+1) x=dg p i (x/p):=by
  unfold dg;rw [Nat.pow_succ,Nat.mul_comm,Nat.div_div_eq_div_mul]
theorem zhl {p:Nat} (hp:2≤p) (i x:Nat):dg p i x<p:=Nat.mod_lt _ (by lia)
theorem yaM {p:Nat} (hp:2≤p) {i k x:Nat} (h:x<p^k) (hk:k≤i):dg p i x=0:=by
  unfold dg
  have:x<p^i:=Nat.lt_of_lt_of_le h (Nat.pow_le_pow_right (by lia) hk)
  rw [Nat.div_eq_of_lt this,Nat.zero_mod]
theorem ybG (p i:Nat):dg p i 0=0:=by simp [dg]
theorem ext {p:Nat} (hp:2≤p):∀ {a b:Nat},(∀i,dg p i a=dg p i b)→a=b:=by
  intro a
  induction a using Nat.strongRecOn with
  | _ a ih =>
    intro b h
    have h0:=h 0
    rw [zbo,zbo] at h0
    by_cases ha:a=0
    · subst ha
      have key:∀n,∀b,b≤n→(∀i,dg p i b=0)→b=0:=by
        intro n
        induction n with
        | zero=>intro b hb _;lia
        | succ n ihn =>
          intro b hb hz
          by_cases hb0:b=0
          · exact hb0
          · have hlt:b/p<b:=Nat.div_lt_self (by lia) (by lia)
            have hd:b/p=0:=ihn (b/p) (by lia) fun i=>by rw [←ybn];exact hz (i+1)
            have hm:b%p=0:=by rw [←zbo];exact hz 0
            have:=Nat.div_add_mod b p
            rw [hd,hm] at this
            simpa using this.symm
      exact (key b b (Nat.le_refl _) fun i=>by rw [←h i,ybG]).symm
    · have hlt:a/p<a:=Nat.div_lt_self (by lia) (by lia)
      have hd:a/p=b/p:=ih (a/p) hlt fun i=>by rw [←ybn,←ybn];exact h (i+1)
      have e1:=Nat.div_add_mod a p
      have e2:=Nat.div_add_mod b p
      rw [←e1,←e2,hd,h0]
theorem zev {p:Nat} (hp:2≤p) {j r:Nat} (h:∀i,j≤i→dg p i r=0):r<p^j:=by
  have hpos:0<p^j:=Nat.pow_pos (by lia)
  have hq:r/p^j=0:=by
    refine ext hp fun i=>?_
    rw [ybG]
    have:=h (j+i) (by lia)
    unfold dg at this ⊢
    rw [Nat.pow_add,←Nat.div_div_eq_div_mul] at this
    exact this
  have:=Nat.div_add_mod r (p^j)
  rw [hq,Nat.mul_zero,Nat.zero_add] at this
  rw [←this]
  exact Nat.mod_lt _ hpos
theorem zgP {p:Nat} (hp:2≤p) {k t d:Nat} (ht:t<p^k) (hd:d<p) (i:Nat):dg p i (t+d*p^k)=if i=k then d else dg p i t:=by
  have hpos:0<p^k:=Nat.pow_pos (by lia)
  unfold dg
  by_cases h1:i<k
  · rw [if_neg (by lia)]
    obtain ⟨c,rfl⟩:∃c,k=i+(c+1):=⟨k-i-1,by lia⟩
    have e:d*p^(i+(c+1))=p^i*(d*p^c*p):=by rw [Nat.pow_add,Nat.pow_succ];ac_rfl
    rw [e,Nat.add_mul_div_left _ _ (Nat.pow_pos (by lia)),Nat.add_mul_mod_self_right]
  · by_cases h2:i=k
    · subst h2
      rw [if_pos rfl,Nat.add_mul_div_right _ _ hpos,Nat.div_eq_of_lt ht,Nat.zero_add,Nat.mod_eq_of_lt hd]
    · rw [if_neg h2]
      have hlt:t+d*p^k<p^i:=by
        have:t+d*p^k<p^(k+1):=by
          rw [Nat.pow_succ]
          calc t+d*p^k<p^k+d*p^k:=by lia
            _=(d+1)*p^k:=by rw [Nat.add_mul];lia
            _≤p*p^k:=Nat.mul_le_mul_right _ hd
            _=p^k*p:=Nat.mul_comm _ _
        exact Nat.lt_of_lt_of_le this (Nat.pow_le_pow_right (by lia) (by lia))
      rw [Nat.div_eq_of_lt hlt,Nat.div_eq_of_lt (Nat.lt_of_lt_of_le ht (Nat.pow_le_pow_right (by lia) (by lia)))]
theorem yhb {p:Nat} {k t d:Nat} (ht:t<p^k) (hd:d<p):t+d*p^k<p^(k+1):=by
  rw [Nat.pow_succ]
  calc t+d*p^k<p^k+d*p^k:=by lia
    _=(d+1)*p^k:=by rw [Nat.add_mul];lia
    _≤p*p^k:=Nat.mul_le_mul_right _ hd
    _=p^k*p:=Nat.mul_comm _ _
noncomputable def zaD (f:Nat→Nat):Nat→Nat:=fun i=>if i=0 then 0 else f (i-1)
noncomputable def yaC (m:Nat) (t f:Nat→Nat):Nat→Nat:=fun i=>if i<m then zaD f i+f (m-1)*t i else 0
noncomputable def tn (m:Nat) (t:Nat→Nat):Nat→(Nat→Nat)→(Nat→Nat)→Nat→Nat
  | 0,_,_=>fun _=>0
  | k+1,f,y=>fun i=>f 0*y i+tn m t k (fun j=>f (j+1)) (yaC m t y) i
noncomputable def ybh (m:Nat) (t:Nat→Nat) (q:Nat) (f:Nat→Nat):Nat→Nat:=fun i=>f i+if q-m≤i∧i<q then f q*t (i-(q-m)) else 0
noncomputable def redF (m:Nat) (t:Nat→Nat):Nat→(Nat→Nat)→(Nat→Nat)
  | 0,f=>f
  | j+1,f=>redF m t j (ybh m t (m+j) f)
noncomputable def zda:Nat→(Nat→Nat)→(Nat→Nat)→Nat→Nat
  | 0,_,_=>fun _=>0
  | k+1,f,y=>fun i=>f 0*y i+zaD (zda k (fun j=>f (j+1)) y) i
section
variable {m:Nat} {t:Nat→Nat}
theorem zfi (q c:Nat) (f g:Nat→Nat):ybh m t q (fun i=>c*f i+g i)=fun i=>c*ybh m t q f i+ybh m t q g i:=by
  funext i
  unfold ybh
  split
  · dsimp only;rw [Nat.mul_add,Nat.add_mul];ac_rfl
  · simp
theorem zei (c:Nat):∀(j:Nat) (f g:Nat→Nat),redF m t j (fun i=>c*f i+g i)=fun i=>c*redF m t j f i+redF m t j g i
  | 0,f,g=>rfl
  | j+1,f,g=>by
    show redF m t j (ybh m t (m+j) fun i=>c*f i+g i)=_
    rw [zfi,zei c j]
    rfl
theorem yd3 {q:Nat} (hq:m≤q) (f:Nat→Nat):ybh m t (q+1) (zaD f)=zaD (ybh m t q f):=by
  funext i
  unfold ybh zaD
  by_cases h0:i=0
  · subst h0
    rw [if_pos rfl,if_pos rfl]
    rw [if_neg (by lia)]
  · rw [if_neg h0,if_neg h0,if_neg (show ¬ q+1=0 by lia)]
    congr 1
    by_cases h1:q-m≤i-1∧i-1<q
    · rw [if_pos h1,if_pos (by lia),Nat.add_sub_cancel]
      congr 2
      lia
    · rw [if_neg h1,if_neg (by lia)]
theorem ycJ (hm:1≤m):∀(j:Nat) (f:Nat→Nat) (i:Nat),i<m→redF m t (j+1) (zaD f) i=yaC m t (redF m t j f) i
  | 0,f,i,hi=>by
    show ybh m t (m+0) (zaD f) i=yaC m t f i
    unfold ybh yaC
    rw [if_pos hi,if_pos (by lia)]
    congr 1
    show zaD f (m+0)*t (i-(m+0-m))=_
    unfold zaD
    rw [if_neg (by lia)]
    simp
  | j+1,f,i,hi=>by
    show redF m t (j+1) (ybh m t (m+(j+1)) (zaD f)) i=yaC m t (redF m t j (ybh m t (m+j) f)) i
    rw [←ycJ hm j (ybh m t (m+j) f) i hi,←yd3 (by lia)]
    rfl
theorem yd9:∀(j:Nat) (f:Nat→Nat),(∀q,m≤q→f q=0)→redF m t j f=f
  | 0,f,_=>rfl
  | j+1,f,h=>by
    have e:ybh m t (m+j) f=f:=by
      funext i
      unfold ybh
      rw [h (m+j) (by lia)]
      simp
    show redF m t j (ybh m t (m+j) f)=f
    rw [e]
    exact yd9 j f h
theorem ydt (c:Nat) (f g:Nat→Nat):yaC m t (fun i=>c*f i+g i)=fun i=>c*yaC m t f i+yaC m t g i:=by
  funext i
  unfold yaC zaD
  split
  · split
    · simp [Nat.mul_add,Nat.add_mul,Nat.mul_assoc]
    · dsimp only;rw [Nat.mul_add,Nat.add_mul];ac_rfl
  · simp
theorem ydI:∀(k:Nat) (f y:Nat→Nat),yaC m t (tn m t k f y)=tn m t k f (yaC m t y)
  | 0,f,y=>by
    funext i
    show yaC m t (fun _=>0) i=0
    unfold yaC zaD
    split
    · split <;> simp
    · rfl
  | k+1,f,y=>by
    show yaC m t (fun i=>f 0*y i+tn m t k (fun j=>f (j+1)) (yaC m t y) i)=_
    rw [ydt,ydI k]
    rfl
theorem zd8 (hm:1≤m):∀(k:Nat) (f y:Nat→Nat),(∀q,m≤q→y q=0)→∀i,i<m→redF m t k (zda (k+1) f y) i=tn m t (k+1) f y i
  | 0,f,y,hy,i,hi=>by
    show f 0*y i+zaD (fun _=>0) i=f 0*y i+0
    unfold zaD
    split <;> rfl
  | k+1,f,y,hy,i,hi=>by
    show redF m t (k+1) (fun i=>f 0*y i+zaD (zda (k+1) (fun j=>f (j+1)) y) i) i=f 0*y i+tn m t (k+1) (fun j=>f (j+1)) (yaC m t y) i
    rw [zei]
    show f 0*redF m t (k+1) y i+redF m t (k+1) (zaD (zda (k+1) (fun j=>f (j+1)) y)) i=_
    rw [yd9 (k+1) y hy,ycJ hm k _ i hi]
    congr 1
    have e:∀i,i<m→redF m t k (zda (k+1) (fun j=>f (j+1)) y) i=tn m t (k+1) (fun j=>f (j+1)) y i:=fun i hi=>zd8 hm k _ y hy i hi
    rw [←ydI]
    unfold yaC zaD
    rw [if_pos hi,if_pos hi,e (m-1) (by lia)]
    by_cases h0:i=0
    · rw [if_pos h0,if_pos h0]
    · rw [if_neg h0,if_neg h0,e (i-1) (by lia)]
end
theorem zdX {m:Nat} {t:Nat→Nat}:∀(k:Nat) (f y:Nat→Nat) (i:Nat),(∀j,f j=0)→tn m t k f y i=0
  | 0,_,_,_,_=>rfl
  | k+1,f,y,i,h=>by
    show f 0*y i+tn m t k (fun j=>f (j+1)) (yaC m t y) i=0
    rw [h 0,zdX k _ _ i fun j=>h (j+1)]
    simp
theorem zcf {p a b c d:Nat} (h1:a%p=c%p) (h2:b%p=d%p):(a+b)%p=(c+d)%p:=by rw [Nat.add_mod,h1,h2,←Nat.add_mod]
theorem zc8 {p a b c d:Nat} (h1:a%p=c%p) (h2:b%p=d%p):(a*b)%p=(c*d)%p:=by rw [Nat.mul_mod,h1,h2,←Nat.mul_mod]
theorem ydF {p m:Nat} (hm:1≤m) {t y y':Nat→Nat} (h:∀i,i<m→y i%p=y' i%p) (i:Nat):yaC m t y i%p=yaC m t y' i%p:=by
  unfold yaC zaD
  split
  · refine zcf ?_ (zc8 (h (m-1) (by lia)) rfl)
    split
    · rfl
    · exact h (i-1) (by lia)
  · rfl
theorem zbh {p m:Nat} (hm:1≤m) {t:Nat→Nat}:∀(k:Nat) (f y y':Nat→Nat),(∀i,i<m→y i%p=y' i%p)→∀i,i<m→tn m t k f y i%p=tn m t k f y' i%p
  | 0,_,_,_,_,_,_=>rfl
  | k+1,f,y,y',h,i,hi=>zcf (zc8 rfl (h i hi)) (zbh hm k _ _ _ (fun j _=>ydF hm h j) i hi)
theorem zdG (p x:Nat):(fun j=>dg p (j+1) x)=fun j=>dg p j (x/p):=by funext j;exact ybn p j x
theorem zd7 (p i x:Nat):dg p i x%p=dg p i x:=by unfold dg;exact Nat.mod_mod _ _
end Dg
end
section
-- text: MathB
set_option linter.all false
namespace Dg
noncomputable def ofF (p:Nat):Nat→(Nat→Nat)→Nat
  | 0,_=>0
  | m+1,f=>f 0%p+p*ofF p m (fun j=>f (j+1))
theorem yd8 {p:Nat} (hp:2≤p):∀(m:Nat) (f:Nat→Nat),ofF p m f<p^m
  | 0,f=>by simp [ofF]
  | m+1,f=>by
    have h:=yd8 hp m fun j=>f (j+1)
    have h1:f 0%p<p:=Nat.mod_lt _ (by lia)
    show f 0%p+p*ofF p m (fun j=>f (j+1))<p^(m+1)
    calc f 0%p+p*ofF p m (fun j=>f (j+1))<p+p*ofF p m (fun j=>f (j+1)):=by lia
      _=p*(ofF p m (fun j=>f (j+1))+1):=by rw [Nat.mul_add,Nat.mul_one,Nat.add_comm]
      _≤p*p^m:=Nat.mul_le_mul_left _ h
      _=p^(m+1):=by rw [Nat.pow_succ,Nat.mul_comm]
theorem zdr {p:Nat} (hp:2≤p):∀(m:Nat) (f:Nat→Nat) (i:Nat),dg p i (ofF p m f)=if i<m then f i%p else 0
  | 0,f,i=>by simp [ofF,ybG]
  | m+1,f,i=>by
    have h1:f 0%p<p:=Nat.mod_lt _ (by lia)
    cases i with
    | zero =>
      rw [if_pos (by lia),zbo]
      show (f 0%p+p*ofF p m (fun j=>f (j+1)))%p=f 0%p
      rw [Nat.add_mul_mod_self_left,Nat.mod_mod]
    | succ i =>
      rw [ybn]
      show dg p i ((f 0%p+p*ofF p m (fun j=>f (j+1)))/p)=_
      rw [Nat.add_mul_div_left _ _ (by lia),Nat.div_eq_of_lt h1,Nat.zero_add,zdr hp m]
      by_cases h:i<m
      · rw [if_pos h,if_pos (by lia)]
      · rw [if_neg h,if_neg (by lia)]
theorem ybi {p:Nat} (hp:2≤p) {m a b:Nat} (ha:a<p^m) (hb:b<p^m) (h:∀i,i<m→dg p i a=dg p i b):a=b :=
  ext hp fun i=>by
    by_cases hi:i<m
    · exact h i hi
    · rw [yaM hp ha (by lia),yaM hp hb (by lia)]
noncomputable abbrev dgs (p x:Nat):Nat→Nat:=fun i=>dg p i x
noncomputable def add (p m x y:Nat):Nat:=ofF p m fun i=>dg p i x+dg p i y
noncomputable def sub (p m x y:Nat):Nat:=ofF p m fun i=>dg p i x+(p-1)*dg p i y
noncomputable def up (p m t x:Nat):Nat:=ofF p m (yaC m (dgs p t) (dgs p x))
noncomputable def mulN (p m t:Nat):Nat→Nat→Nat→Nat
  | 0,_,_=>0
  | k+1,x,y=>ofF p m fun i=>x%p*dg p i y+dg p i (mulN p m t k (x/p) (up p m t y))
noncomputable def mul (p m t x y:Nat):Nat:=mulN p m t m x y
section
variable {p m t:Nat} (hp:2≤p) (hm:1≤m)
include hp hm
theorem ze1:∀(k x y i:Nat),i<m→dg p i (mulN p m t k x y)=tn m (dgs p t) k (dgs p x) (dgs p y) i%p
  | 0,x,y,i,hi=>by show dg p i 0=0%p;rw [ybG];simp
  | k+1,x,y,i,hi=>by
    show dg p i (ofF p m fun i=>x%p*dg p i y+dg p i (mulN p m t k (x/p) (up p m t y)))=_
    rw [zdr hp,if_pos hi]
    show _=(dg p 0 x*dg p i y+tn m (dgs p t) k (fun j=>dg p (j+1) x) (yaC m (dgs p t) (dgs p y)) i)%p
    rw [ze1 k _ _ i hi,zbo]
    refine zcf rfl ?_
    rw [Nat.mod_mod,zdG]
    refine zbh hm k _ _ _ (fun j hj=>?_) i hi
    show dg p j (up p m t y)%p=_
    unfold up
    rw [zdr hp,if_pos hj,Nat.mod_mod]
theorem ygl:∀(k x y:Nat),mulN p m t k x y<p^m
  | 0,x,y=>Nat.pow_pos (by lia)
  | k+1,x,y=>yd8 hp _ _
theorem zap (x y:Nat):mul p m t x y<p^m:=ygl hp hm _ _ _
theorem ya2 (x y:Nat):add p m x y<p^m:=yd8 hp _ _
theorem ybj (x y:Nat):sub p m x y<p^m:=yd8 hp _ _
theorem zbc (x y i:Nat) (hi:i<m):dg p i (mul p m t x y)=tn m (dgs p t) m (dgs p x) (dgs p y) i%p:=ze1 hp hm m x y i hi
theorem zbj (x y i:Nat) (hi:i<m):dg p i (add p m x y)=(dg p i x+dg p i y)%p:=by unfold add;rw [zdr hp,if_pos hi]
theorem yfy (x y i:Nat) (hi:i<m):dg p i (sub p m x y)=(dg p i x+(p-1)*dg p i y)%p:=by unfold sub;rw [zdr hp,if_pos hi]
theorem zf8 {x y r:Nat} (hr:r<p^m) (h:∀i,i<m→dg p i r=tn m (dgs p t) m (dgs p x) (dgs p y) i%p):r=mul p m t x y :=
  ybi hp hr (zap hp hm x y) fun i hi=>by rw [h i hi,zbc hp hm x y i hi]
theorem yga {x y r:Nat} (hx:x<p^m) (hy:y<p^m) (h:∀i,dg p i r=(dg p i x+dg p i y)%p):r=add p m x y :=
  ext hp fun i=>by
    by_cases hi:i<m
    · rw [h,zbj hp hm x y i hi]
    · rw [h,yaM hp (ya2 hp hm x y) (by lia),yaM hp hx (by lia),yaM hp hy (by lia)];simp
end
section
variable {m:Nat} {t:Nat→Nat}
theorem zds (c:Nat):∀(k:Nat) (f y z:Nat→Nat),tn m t k f (fun i=>c*y i+z i)=fun i=>c*tn m t k f y i+tn m t k f z i
  | 0,f,y,z=>by funext i;rfl
  | k+1,f,y,z=>by
    funext i
    show f 0*(c*y i+z i)+tn m t k (fun j=>f (j+1)) (yaC m t fun i=>c*y i+z i) i=c*(f 0*y i+tn m t k (fun j=>f (j+1)) (yaC m t y) i)+(f 0*z i+tn m t k (fun j=>f (j+1)) (yaC m t z) i)
    rw [ydt,zds c k]
    dsimp only
    rw [Nat.mul_add,Nat.mul_add,Nat.mul_left_comm]
    lia
theorem ydR:∀(k l:Nat) (f g y:Nat→Nat),tn m t k f (tn m t l g y)=tn m t l g (tn m t k f y)
  | 0,l,f,g,y=>by
    show (fun _=>0)=tn m t l g (fun _=>0)
    have h:=zds (m:=m) (t:=t) 0 l g (fun _=>0) (fun _=>0)
    funext i
    have h2:=zds (m:=m) (t:=t) 1 l g (fun _=>0) (fun _=>0)
    have h3:=congrFun h2 i
    simp at h3
    exact h3.symm
  | k+1,l,f,g,y=>by
    show (fun i=>f 0*tn m t l g y i+tn m t k (fun j=>f (j+1)) (yaC m t (tn m t l g y)) i)=tn m t l g (fun i=>f 0*y i+tn m t k (fun j=>f (j+1)) (yaC m t y) i)
    rw [ydI,ydR k,zds]
noncomputable def zbF (s:Nat):Nat→Nat:=fun i=>if i=s then 1 else 0
theorem yft {s:Nat} (h:s+1<m):yaC m t (zbF s)=zbF (s+1):=by
  funext i
  unfold yaC zaD zbF
  rw [if_neg (show ¬ m-1=s by lia),Nat.zero_mul,Nat.add_zero]
  by_cases hi:i<m
  · rw [if_pos hi]
    by_cases h0:i=0
    · rw [if_pos h0,if_neg (by lia)]
    · rw [if_neg h0]
      by_cases hs:i-1=s
      · rw [if_pos hs,if_pos (by lia)]
      · rw [if_neg hs,if_neg (by lia)]
  · rw [if_neg hi,if_neg (by lia)]
theorem yfu:∀(k s:Nat) (f:Nat→Nat) (i:Nat),s+k≤m→tn m t k f (zbF s) i=if s≤i∧i<s+k then f (i-s) else 0
  | 0,s,f,i,_=>by rw [if_neg (by lia)];rfl
  | k+1,s,f,i,h=>by
    show f 0*zbF s i+tn m t k (fun j=>f (j+1)) (yaC m t (zbF s)) i=_
    cases k with
    | zero =>
      show f 0*zbF s i+0=_
      unfold zbF
      by_cases hi:i=s
      · rw [if_pos hi,if_pos (by lia)];subst hi;simp
      · rw [if_neg hi,if_neg (by lia)];simp
    | succ k =>
      rw [yft (by lia),yfu (k+1) (s+1) _ i (by lia)]
      unfold zbF
      by_cases hi:i=s
      · subst hi;rw [if_pos rfl,if_neg (by lia),if_pos (by lia)];simp
      · rw [if_neg hi]
        by_cases h2:s+1≤i∧i<s+1+(k+1)
        · rw [if_pos h2,if_pos (by lia)]
          show f 0*0+f (i-(s+1)+1)=f (i-s)
          rw [Nat.mul_zero,Nat.zero_add];congr 1;lia
        · rw [if_neg h2,if_neg (by lia)];simp
theorem yfe (f:Nat→Nat) (i:Nat) (hi:i<m):tn m t m f (zbF 0) i=f i:=by
  rw [yfu m 0 f i (by lia),if_pos (by lia),Nat.sub_zero]
end
section
variable {p m t:Nat} (hp:2≤p) (hm:1≤m)
include hp hm
theorem mul_comm (x y:Nat):mul p m t x y=mul p m t y x:=by
  refine ybi hp (zap hp hm _ _) (zap hp hm _ _) fun i hi=>?_
  rw [zbc hp hm _ _ i hi,zbc hp hm _ _ i hi]
  have h1:=zbh (p:=p) hm (t:=dgs p t) m (dgs p x) (dgs p y) (tn m (dgs p t) m (dgs p y) (zbF 0)) (fun j hj=>by rw [yfe _ j hj]) i hi
  have h2:=zbh (p:=p) hm (t:=dgs p t) m (dgs p y) (dgs p x) (tn m (dgs p t) m (dgs p x) (zbF 0)) (fun j hj=>by rw [yfe _ j hj]) i hi
  rw [h1,h2,ydR]
theorem mul_left_comm (x y z:Nat):mul p m t x (mul p m t y z)=mul p m t y (mul p m t x z):=by
  refine ybi hp (zap hp hm _ _) (zap hp hm _ _) fun i hi=>?_
  rw [zbc hp hm _ _ i hi,zbc hp hm _ _ i hi]
  have h1:=zbh (p:=p) hm (t:=dgs p t) m (dgs p x) (dgs p (mul p m t y z)) (tn m (dgs p t) m (dgs p y) (dgs p z)) (fun j hj=>by show dg p j _%p=_;rw [zbc hp hm _ _ j hj,Nat.mod_mod]) i hi
  have h2:=zbh (p:=p) hm (t:=dgs p t) m (dgs p y) (dgs p (mul p m t x z)) (tn m (dgs p t) m (dgs p x) (dgs p z)) (fun j hj=>by show dg p j _%p=_;rw [zbc hp hm _ _ j hj,Nat.mod_mod]) i hi
  rw [h1,h2,ydR]
theorem mul_assoc (x y z:Nat):mul p m t (mul p m t x y) z=mul p m t x (mul p m t y z):=by
  rw [mul_comm hp hm _ z,mul_left_comm hp hm z x y,mul_comm hp hm z y]
theorem mul_add (x y z:Nat):mul p m t x (add p m y z)=add p m (mul p m t x y) (mul p m t x z):=by
  refine ybi hp (zap hp hm _ _) (ya2 hp hm _ _) fun i hi=>?_
  rw [zbc hp hm _ _ i hi,zbj hp hm _ _ i hi,zbc hp hm _ _ i hi,zbc hp hm _ _ i hi]
  have h1:=zbh (p:=p) hm (t:=dgs p t) m (dgs p x) (dgs p (add p m y z)) (fun i=>1*dgs p y i+dgs p z i) (fun j hj=>by show dg p j _%p=(1*dg p j y+dg p j z)%p;rw [zbj hp hm _ _ j hj,Nat.mod_mod,Nat.one_mul]) i hi
  rw [h1,zds]
  dsimp only
  rw [Nat.one_mul,←Nat.add_mod]
theorem zas:1<p^m:=by
  have:p^1≤p^m:=Nat.pow_le_pow_right (by lia) hm
  rw [Nat.pow_one] at this;lia
theorem ygc (i:Nat):dg p i 1=zbF 0 i:=by
  unfold zbF
  cases i with
  | zero=>rw [zbo,if_pos rfl,Nat.mod_eq_of_lt (by lia)]
  | succ i=>rw [if_neg (by lia),ybn,Nat.div_eq_of_lt (by lia),ybG]
theorem mul_one {x:Nat} (hx:x<p^m):mul p m t x 1=x:=by
  refine ybi hp (zap hp hm _ _) hx fun i hi=>?_
  rw [zbc hp hm _ _ i hi,show dgs p 1=zbF 0 from funext fun i=>ygc hp hm i,yfe _ i hi,zd7]
theorem one_mul {x:Nat} (hx:x<p^m):mul p m t 1 x=x:=by rw [mul_comm hp hm,mul_one hp hm hx]
theorem zero_mul (x:Nat):mul p m t 0 x=0:=by
  refine ybi hp (zap hp hm _ _) (Nat.pow_pos (by lia)) fun i hi=>?_
  rw [zbc hp hm _ _ i hi,zdX _ _ _ _ (fun j=>ybG p j),ybG];simp
theorem mul_zero (x:Nat):mul p m t x 0=0:=by rw [mul_comm hp hm,zero_mul hp hm]
theorem add_comm (x y:Nat):add p m x y=add p m y x:=by
  unfold add;congr 1;funext i;exact Nat.add_comm _ _
theorem add_assoc (x y z:Nat):add p m (add p m x y) z=add p m x (add p m y z):=by
  refine ybi hp (ya2 hp hm _ _) (ya2 hp hm _ _) fun i hi=>?_
  rw [zbj hp hm _ _ i hi,zbj hp hm _ _ i hi,zbj hp hm _ _ i hi,zbj hp hm _ _ i hi,Nat.mod_add_mod,Nat.add_mod_mod,Nat.add_assoc]
theorem add_zero {x:Nat} (hx:x<p^m):add p m x 0=x:=by
  refine ybi hp (ya2 hp hm _ _) hx fun i hi=>?_
  rw [zbj hp hm _ _ i hi,ybG,Nat.add_zero,zd7]
theorem zero_add {x:Nat} (hx:x<p^m):add p m 0 x=x:=by rw [add_comm hp hm,add_zero hp hm hx]
theorem yaF {x y:Nat} (hx:x<p^m):add p m (sub p m x y) y=x:=by
  refine ybi hp (ya2 hp hm _ _) hx fun i hi=>?_
  rw [zbj hp hm _ _ i hi,yfy hp hm _ _ i hi,Nat.mod_add_mod,show dg p i x+(p-1)*dg p i y+dg p i y=dg p i x+p*dg p i y by obtain ⟨k,rfl⟩:∃k,p=k+1:=⟨p-1,by lia⟩;rw [Nat.add_sub_cancel,Nat.add_mul];lia,Nat.add_mul_mod_self_left,zd7]
theorem zbr {x y:Nat} (hx:x<p^m):sub p m (add p m x y) y=x:=by
  refine ybi hp (ybj hp hm _ _) hx fun i hi=>?_
  rw [yfy hp hm _ _ i hi,zbj hp hm _ _ i hi,Nat.mod_add_mod,show dg p i x+dg p i y+(p-1)*dg p i y=dg p i x+p*dg p i y by obtain ⟨k,rfl⟩:∃k,p=k+1:=⟨p-1,by lia⟩;rw [Nat.add_sub_cancel,Nat.add_mul];lia,Nat.add_mul_mod_self_left,zd7]
noncomputable def pw (p m t x:Nat):Nat→Nat
  | 0=>1
  | n+1=>mul p m t (pw p m t x n) x
theorem zaA (x n:Nat):pw p m t x n<p^m:=by
  cases n with
  | zero=>exact zas hp hm
  | succ n=>exact zap hp hm _ _
theorem za2 (x a:Nat):∀b,pw p m t x (a+b)=mul p m t (pw p m t x a) (pw p m t x b)
  | 0=>(mul_one hp hm (zaA hp hm x a)).symm
  | b+1=>by
    show mul p m t (pw p m t x (a+b)) x=mul p m t (pw p m t x a) (mul p m t (pw p m t x b) x)
    rw [za2 x a b,mul_assoc hp hm]
theorem yb5 {x:Nat} (hx:x<p^m):pw p m t x 1=x:=one_mul hp hm hx
theorem zaE (x a:Nat):∀b,pw p m t x (a*b)=pw p m t (pw p m t x a) b
  | 0=>rfl
  | b+1=>by
    rw [Nat.mul_succ,za2 hp hm,zaE x a b];rfl
theorem yaY:∀n,pw p m t 1 n=1
  | 0=>rfl
  | n+1=>by
    show mul p m t (pw p m t 1 n) 1=1
    rw [yaY n,mul_one hp hm (zas hp hm)]
theorem ybq (n:Nat):pw p m t 0 (n+1)=0:=mul_zero hp hm _
theorem ybo (x y:Nat):∀n,pw p m t (mul p m t x y) n=mul p m t (pw p m t x n) (pw p m t y n)
  | 0=>(mul_one hp hm (zas hp hm)).symm
  | n+1=>by
    show mul p m t (pw p m t (mul p m t x y) n) (mul p m t x y)=mul p m t (mul p m t (pw p m t x n) x) (mul p m t (pw p m t y n) y)
    rw [ybo x y n,mul_assoc hp hm,mul_assoc hp hm,mul_left_comm hp hm (pw p m t y n) x y]
end
end Dg
end
section
-- text: MathC
set_option linter.all false
set_option maxRecDepth 100000
namespace Dg
noncomputable def ydk:List (Nat×Nat×List (Nat×Nat)):=[(2,1,[(1,0)]),(2,2,[(2,2),(3,3),(2,3),(2,0)]),(2,3,[(2,4),(3,7),(2,5),(2,0),(2,6),(2,0),(2,7),(3,5)]),(2,4,[(2,8),(3,15),(2,9),(2,0),(2,10),(7,7),(2,11),(3,13),(2,12),(2,0),(2,13),(3,9),(2,14),(3,11),(2,15),(3,0)]),(3,1,[(2,0)]),(3,2,[(3,3),(4,5),(4,0),(3,5),(3,0),(4,4),(3,4),(3,0),(5,5)]),(3,3,[(3,9),(5,13),(4,16),(3,11),(6,0),(3,0),(3,10),(4,17),(5,14),(3,15),(4,14),(3,0),(3,17),(4,0),(4,13),(3,16),(5,10),(3,0),(3,12),(5,0),(5,17),(3,14),(4,11),(3,0),(3,13),(4,0),(4,10)]),(5,1,[(2,0)]),(5,2,[(5,5),(6,9),(7,0),(6,0),(7,8),(5,9),(7,7),(6,8),(5,0),(6,0),(5,8),(6,0),(5,0),(6,7),(9,9),(5,7),(8,0),(5,0),(8,9),(6,6),(5,6),(8,8),(7,9),(5,0),(7,0)]),(7,1,[(3,0)]),(11,1,[(2,0)]),(13,1,[(2,0)]),(2,5,[(2,16),(3,31),(2,17),(7,13),(2,18),(2,0),(2,19),(3,29),(2,20),(2,0),(2,21),(3,25),(2,22),(3,27),(2,23),(2,0),(2,24),(7,11),(2,25),(3,17),(2,26),(3,19),(2,27),(2,0),(2,28),(3,23),(2,29),(2,0),(2,30),(2,0),(2,31),(3,21)]),(2,6,[(2,32),(3,63),(2,33),(2,0),(2,34),(11,11),(2,35),(3,61),(2,36),(3,0),(2,37),(3,57),(2,38),(3,59),(2,39),(7,25),(2,40),(13,13),(2,41),(3,49),(2,42),(3,51),(2,43),(3,0),(2,44),(3,55),(2,45),(2,0),(2,46),(7,31),(2,47),(3,53),(2,48),(2,0),(2,49),(3,33),(2,50),(3,35),(2,51),(2,0),(2,52),(3,39),(2,53),(7,21),(2,54),(2,0),(2,55),(3,37),(2,56),(3,47),(2,57),(2,0),(2,58),(3,0),(2,59),(3,45),(2,60),(7,19),(2,61),(3,41),(2,62),(3,43),(2,63),(11,13)]),(7,2,[(7,7),(8,13),(10,11),(8,0),(9,12),(8,0),(9,0),(7,13),(9,0),(8,12),(9,0),(7,0),(10,10),(9,11),(7,12),(9,10),(7,0),(8,11),(7,0),(8,0),(13,13),(7,11),(8,0),(7,0),(9,9),(8,10),(12,13),(8,0),(7,10),(11,0),(7,0),(12,12),(11,13),(8,9),(11,0),(7,9),(11,12),(7,0),(10,13),(7,0),(10,0),(8,8),(7,8),(10,0),(9,13),(10,0),(7,0),(11,11),(10,12)]),(61,1,[(2,0)]),(17,1,[(3,0)]),(19,1,[(2,0)]),(23,1,[(5,0)]),(29,1,[(2,0)]),(31,1,[(3,0)]),(37,1,[(2,0)]),(41,1,[(6,0)]),(43,1,[(3,0)]),(47,1,[(5,0)]),(53,1,[(2,0)]),(59,1,[(2,0)])]
noncomputable def menu:List (Nat×Nat):=ydk.map fun c=>(c.1,c.2.1)
noncomputable def ya4 (p m t b:Nat):Nat→Nat→List Nat
  | _,0=>[]
  | x,n+1=>x::ya4 p m t b (mul p m t x b) n
noncomputable def lowB (p m t b:Nat):Bool:=((ya4 p m t b 1 (p^m-1)).drop 1).contains 1
noncomputable def ze9 (p m t b:Nat):Bool:=(List.range b).all (fun c=>c==0||lowB p m t c)&&!lowB p m t b&&decide (0<b)&&(List.range (p^m)).all (fun y=>y==0||(ya4 p m t b 1 (p^m-1)).contains y)&&(ya4 p m t b 1 (p^m)).getLast?==some 1&&decide (b<p^m)
noncomputable def zdE (p m t:Nat) (c:Nat×Nat):Bool:=if c.2=0 then ze9 p m t c.1 else decide (0<c.1∧c.1<p^m∧c.1<p^(m/2+1)∧c.2<p^m)&&mul p m t c.1 c.2==0
noncomputable def zdm (p m:Nat):Nat→List (Nat×Nat)→Bool
  | _,[]=>true
  | t,c::cs=>zdE p m t c&&zdm p m (t+1) cs
noncomputable def zhj:Bool:=ydk.all fun c=>zdm c.1 c.2.1 0 c.2.2
theorem yf5:zhj=true:=by decide +kernel
theorem ycw {p m t b:Nat}:∀(n k i:Nat),i<n→(ya4 p m t b (pw p m t b k) n)[i]?=some (pw p m t b (k+i))
  | 0,k,i,h=>absurd h (Nat.not_lt_zero _)
  | n+1,k,0,h=>rfl
  | n+1,k,i+1,h=>by
    show (ya4 p m t b (pw p m t b (k+1)) n)[i]?=_
    rw [ycw n (k+1) i (by lia),show k+1+i=k+(i+1) by lia]
theorem ycn {p m t b:Nat}:∀(n x:Nat),(ya4 p m t b x n).length=n
  | 0,x=>rfl
  | n+1,x=>by show (ya4 p m t b _ n).length+1=_;rw [ycn n]
structure Prim (p m t b:Nat):Prop where
  lt:b<p^m
  round:pw p m t b (p^m-1)=1
  all:∀y,0<y→y<p^m→∃i,i<p^m-1∧pw p m t b i=y
  pos:0<b
  min:∀i,0<i→i<p^m-1→pw p m t b i≠1
  low:∀c,0<c→c<b→∃i,0<i∧i<p^m-1∧pw p m t c i=1
theorem zf6 {p m t b:Nat}:lowB p m t b=true↔∃i,0<i∧i<p^m-1∧pw p m t b i=1:=by
  unfold lowB
  rw [List.contains_iff_mem,List.mem_iff_getElem?]
  constructor
  · rintro ⟨j,h⟩
    rw [List.getElem?_drop] at h
    have hl:1+j<p^m-1:=by have:=(List.getElem?_eq_some_iff.mp h).1;rw [ycn] at this;exact this
    have g:=ycw (p:=p) (m:=m) (t:=t) (b:=b) (p^m-1) 0 (1+j) hl
    rw [show pw p m t b 0=1 from rfl,h] at g
    exact ⟨1+j,by lia,hl,by simpa using (Option.some.inj g).symm⟩
  · rintro ⟨i,h0,hi,e⟩
    refine ⟨i-1,?_⟩
    rw [List.getElem?_drop,show 1+(i-1)=i by lia]
    have g:=ycw (p:=p) (m:=m) (t:=t) (b:=b) (p^m-1) 0 i hi
    rw [show pw p m t b 0=1 from rfl,Nat.zero_add,e] at g
    exact g
theorem zcQ {p m t b:Nat} (hq:0<p^m) (h:ze9 p m t b=true):Prim p m t b:=by
  unfold ze9 at h
  simp only [Bool.and_eq_true] at h
  obtain ⟨⟨⟨⟨⟨k1,k2⟩,k3⟩,h1⟩,h2⟩,h3⟩:=h
  refine ⟨of_decide_eq_true h3,?_,fun y hy hy2=>?_,of_decide_eq_true k3,fun i hi hi2 e=>?_,fun c hc hc2=>?_⟩
  · have e:(ya4 p m t b 1 (p^m)).getLast?=some 1:=by simpa using h2
    rw [List.getLast?_eq_getElem?,ycn] at e
    have g:=ycw (p:=p) (m:=m) (t:=t) (b:=b) (p^m) 0 (p^m-1) (by lia)
    rw [show pw p m t b 0=1 from rfl] at g
    rw [g] at e
    simpa using Option.some.inj e
  · rw [List.all_eq_true] at h1
    have g:=h1 y (List.mem_range.mpr hy2)
    rw [Bool.or_eq_true] at g
    rcases g with g|g
    · have:y=0:=by simpa using g
      lia
    · have g:y∈ya4 p m t b 1 (p^m-1):=List.contains_iff_mem.mp g
      obtain ⟨i,hi,e⟩:=List.mem_iff_getElem.mp g
      rw [ycn] at hi
      have g2:=ycw (p:=p) (m:=m) (t:=t) (b:=b) (p^m-1) 0 i hi
      rw [show pw p m t b 0=1 from rfl,List.getElem?_eq_getElem (by rw [ycn];exact hi),e] at g2
      exact ⟨i,hi,by simpa using (Option.some.inj g2).symm⟩
  · have:=zf6.mpr ⟨i,hi,hi2,e⟩
    rw [this] at k2
    cases k2
  · have g:=List.all_eq_true.mp k1 c (List.mem_range.mpr hc2)
    rw [Bool.or_eq_true] at g
    rcases g with g|g
    · have:c=0:=by simpa using g
      lia
    · exact zf6.mp g
theorem zbw {p m:Nat}:∀(cs:List (Nat×Nat)) (t i:Nat) (c:Nat×Nat),zdm p m t cs=true→cs[i]?=some c→zdE p m (t+i) c=true
  | [],t,i,c,_,h=>by simp at h
  | d::cs,t,0,c,h,e=>by
    have h:(zdE p m t d&&zdm p m (t+1) cs)=true:=h
    rw [Bool.and_eq_true] at h
    cases e
    exact h.1
  | d::cs,t,i+1,c,h,e=>by
    have h:(zdE p m t d&&zdm p m (t+1) cs)=true:=h
    rw [Bool.and_eq_true] at h
    have g:=zbw cs (t+1) i c h.2 (by simpa using e)
    rw [show t+(i+1)=t+1+i by lia];exact g
theorem yfP (p t x y:Nat):mul p 1 t x y=mul p 1 0 x y:=rfl
theorem ycr (p t x:Nat):∀n,pw p 1 t x n=pw p 1 0 x n
  | 0=>rfl
  | n+1=>by
    show mul p 1 t (pw p 1 t x n) x=mul p 1 0 (pw p 1 0 x n) x
    rw [ycr p t x n,yfP]
structure Good (p m t:Nat):Prop where
  mem:(p,m)∈menu
  top:t<p^m
  no:m=1∨∀x y,0<x→x<p^m→x<p^(m/2+1)→0<y→y<p^m→mul p m t x y≠0
noncomputable def zfT:Bool:=ydk.all fun c=>decide (2≤c.1∧1≤c.2.1∧c.1^c.2.1≤64)&&(if c.2.1=1 then decide (c.2.2.length=1)&&c.2.2.all (fun d=>d.2==0) else decide (c.2.2.length=c.1^c.2.1))
theorem ycq:zfT=true:=by decide +kernel
theorem za9 {p m:Nat} (h:(p,m)∈menu):2≤p∧1≤m∧p^m≤64:=by
  obtain ⟨c,hc,e⟩:=List.mem_map.mp h
  cases e
  have g:=List.all_eq_true.mp ycq c hc
  rw [Bool.and_eq_true] at g
  exact of_decide_eq_true g.1
theorem Good.prim {p m t:Nat} (h:Good p m t):∃b,Prim p m t b:=by
  obtain ⟨c,hc,e⟩:=List.mem_map.mp h.mem
  obtain ⟨p',m',cs⟩:=c
  obtain ⟨rfl,rfl⟩:p'=p∧m'=m:=by simpa using e
  have hs:=za9 h.mem
  have hq:0<p'^m':=Nat.pow_pos (by lia)
  have g:=List.all_eq_true.mp ycq _ hc
  have a:=List.all_eq_true.mp yf5 _ hc
  rw [Bool.and_eq_true] at g
  have g:=g.2
  dsimp only at g a
  by_cases h1:m'=1
  · subst h1
    rw [if_pos rfl,Bool.and_eq_true] at g
    have hl:cs.length=1:=of_decide_eq_true g.1
    obtain ⟨c,rfl⟩:∃c,cs=[c]:=by
      cases cs with
      | nil=>simp at hl
      | cons c r=>cases r with
        | nil=>exact ⟨c,rfl⟩
        | cons d r=>simp at hl
    have a1:=zbw [c] 0 0 c a rfl
    have c0:c.2=0:=by simpa using List.all_eq_true.mp g.2 c (by simp)
    unfold zdE at a1
    rw [if_pos c0] at a1
    have P:=zcQ hq a1
    refine ⟨c.1,P.lt,?_,fun y hy hy2=>?_,P.pos,fun i h1 h2=>?_,fun d h1 h2=>?_⟩
    · rw [ycr];exact P.round
    · obtain ⟨i,hi,e⟩:=P.all y hy hy2
      exact ⟨i,hi,by rw [ycr];exact e⟩
    · rw [ycr];exact P.min i h1 h2
    · obtain ⟨i,a,b,e⟩:=P.low d h1 h2
      exact ⟨i,a,b,by rw [ycr];exact e⟩
  · rw [if_neg h1] at g
    have hl:cs.length=p'^m':=of_decide_eq_true g
    have ht:t<cs.length:=by rw [hl];exact h.top
    have a1:=zbw cs 0 t cs[t] a (List.getElem?_eq_getElem ht)
    rw [Nat.zero_add] at a1
    unfold zdE at a1
    by_cases c0:cs[t].2=0
    · rw [if_pos c0] at a1
      exact ⟨_,zcQ hq a1⟩
    · rw [if_neg c0,Bool.and_eq_true] at a1
      have b:=of_decide_eq_true a1.1
      rcases h.no with h2|h2
      · exact absurd h2 h1
      · exact absurd (by simpa using a1.2) (h2 _ _ b.1 b.2.1 b.2.2.1 (by lia) b.2.2.2)
section
variable {p m t:Nat} (G:Good p m t)
include G
theorem Good.hp:2≤p:=(za9 G.mem).1
theorem Good.hm:1≤m:=(za9 G.mem).2.1
theorem Good.hq:p^m≤64:=(za9 G.mem).2.2
theorem Good.fermat {x:Nat} (h0:0<x) (hx:x<p^m):pw p m t x (p^m-1)=1:=by
  obtain ⟨b,P⟩:=G.prim
  obtain ⟨i,_,rfl⟩:=P.all x h0 hx
  rw [←zaE G.hp G.hm,Nat.mul_comm,zaE G.hp G.hm,P.round,yaY G.hp G.hm]
theorem Good.inv {x:Nat} (h0:0<x) (hx:x<p^m):mul p m t (pw p m t x (p^m-2)) x=1:=by
  have h2:=zas G.hp G.hm
  have e:p^m-1=(p^m-2)+1:=by lia
  have f:=G.fermat h0 hx
  rw [e] at f
  exact f
theorem Good.noz {x y:Nat} (h0:0<x) (hx:x<p^m) (k0:0<y) (hy:y<p^m):0<mul p m t x y:=by
  rcases Nat.eq_zero_or_pos (mul p m t x y) with e|e
  · have i:=G.inv h0 hx
    have f:mul p m t (pw p m t x (p^m-2)) (mul p m t x y)=y:=by rw [←mul_assoc G.hp G.hm,i,one_mul G.hp G.hm hy]
    rw [e,mul_zero G.hp G.hm] at f
    lia
  · exact e
theorem Good.inj {b:Nat} (P:Prim p m t b):∀i j,i<p^m-1→j<p^m-1→pw p m t b i=pw p m t b j→i=j:=by
  have key:∀i j,i<j→j<p^m-1→pw p m t b i≠pw p m t b j:=by
    intro i j hij hj e
    have hp:=G.hp
    have hm:=G.hm
    have h1:mul p m t (pw p m t b (p^m-1-i)) (pw p m t b i)=1:=by rw [←za2 hp hm,show p^m-1-i+i=p^m-1 by lia,P.round]
    have h2:mul p m t (pw p m t b (p^m-1-i)) (pw p m t b j)=pw p m t b (j-i):=by
      rw [show j=i+(j-i) by lia,za2 hp hm,←mul_assoc hp hm,h1,one_mul hp hm (zaA hp hm _ _),show i+(j-i)-i=j-i by lia]
    rw [←e,h1] at h2
    exact P.min (j-i) (by lia) (by lia) h2.symm
  intro i j hi hj e
  rcases Nat.lt_trichotomy i j with h|h|h
  · exact absurd e (key i j h hj)
  · exact h
  · exact absurd e.symm (key j i h hi)
theorem Good.pw_pos {b:Nat} (h0:0<b) (hb:b<p^m):∀n,0<pw p m t b n
  | 0=>by show 0<1;lia
  | n+1=>G.noz (Good.pw_pos h0 hb n) (zaA G.hp G.hm _ _) h0 hb
theorem Good.pw_mod {x:Nat} (h0:0<x) (hx:x<p^m) (n:Nat):pw p m t x (n%(p^m-1))=pw p m t x n:=by
  have e:=Nat.div_add_mod n (p^m-1)
  have g:pw p m t x n=mul p m t (pw p m t x ((p^m-1)*(n/(p^m-1)))) (pw p m t x (n%(p^m-1))):=by rw [←za2 G.hp G.hm,e]
  rw [g,zaE G.hp G.hm,G.fermat h0 hx,yaY G.hp G.hm,one_mul G.hp G.hm (zaA G.hp G.hm _ _)]
end
end Dg
end
section
-- text: MathD
set_option linter.all false
namespace Dg
noncomputable def sumF (p m:Nat):Nat→(Nat→Nat)→Nat
  | 0,_=>0
  | k+1,f=>add p m (sumF p m k f) (f k)
section
variable {p m t:Nat} (hp:2≤p) (hm:1≤m)
include hp hm
theorem zah:0<p^m:=Nat.pow_pos (by lia)
theorem ybT (k:Nat) (f:Nat→Nat):sumF p m k f<p^m:=by
  cases k with
  | zero=>exact zah hp hm
  | succ k=>exact ya2 hp hm _ _
theorem ybf (f:Nat→Nat) (k:Nat):∀d,(∀i,k≤i→i<k+d→f i=0)→sumF p m (k+d) f=sumF p m k f
  | 0,_=>rfl
  | d+1,h=>by
    show add p m (sumF p m (k+d) f) (f (k+d))=_
    rw [h (k+d) (by lia) (by lia),add_zero hp hm (ybT hp hm _ _),ybf f k d fun i h1 h2=>h i h1 (by lia)]
theorem yaf {f g:Nat→Nat}:∀k,(∀i,i<k→f i=g i)→sumF p m k f=sumF p m k g
  | 0,_=>rfl
  | k+1,h=>by
    show add p m (sumF p m k f) (f k)=add p m (sumF p m k g) (g k)
    rw [yaf k fun i hi=>h i (by lia),h k (by lia)]
theorem ybV {f:Nat→Nat} (hf:∀i,f i<p^m):∀k,sumF p m (k+1) f=add p m (f 0) (sumF p m k fun i=>f (i+1))
  | 0=>by
    show add p m 0 (f 0)=add p m (f 0) 0
    rw [add_comm hp hm]
  | k+1=>by
    show add p m (sumF p m (k+1) f) (f (k+1))=add p m (f 0) (add p m (sumF p m k fun i=>f (i+1)) (f (k+1)))
    rw [ybV hf k,add_assoc hp hm]
end
noncomputable def conv (p m t:Nat) (xs ys:List Nat) (n:Nat):Nat:=sumF p m (n+1) fun i=>mul p m t (xs.getD i 0) (ys.getD (n-i) 0)
theorem zau {xs:List Nat} {i:Nat} (h:xs.length≤i):xs.getD i 0=0:=by simp [List.getD,h]
end Dg
end
section
-- text: MathE
set_option linter.all false
namespace Dg
noncomputable def val (p m t x:Nat):List Nat→Nat
  | []=>0
  | a::r=>add p m (mul p m t (val p m t x r) x) a
section
variable {p m t:Nat} (hp:2≤p) (hm:1≤m)
include hp hm
theorem add_mul (x y z:Nat):mul p m t (add p m x y) z=add p m (mul p m t x z) (mul p m t y z):=by
  rw [mul_comm hp hm,mul_add hp hm,mul_comm hp hm z x,mul_comm hp hm z y]
theorem zbR (x:Nat) (l:List Nat):val p m t x l<p^m:=by
  cases l with
  | nil=>exact zah hp hm
  | cons a r=>exact ya2 hp hm _ _
theorem zaQ (z:Nat):∀(k:Nat) (f:Nat→Nat),sumF p m k (fun i=>mul p m t (f i) z)=mul p m t (sumF p m k f) z
  | 0,f=>(zero_mul hp hm z).symm
  | k+1,f=>by
    show add p m (sumF p m k fun i=>mul p m t (f i) z) (mul p m t (f k) z)=mul p m t (add p m (sumF p m k f) (f k)) z
    rw [zaQ z k f,add_mul hp hm]
theorem zb2:∀(k:Nat) (f g:Nat→Nat),sumF p m k (fun i=>add p m (f i) (g i))=add p m (sumF p m k f) (sumF p m k g)
  | 0,f,g=>(add_zero hp hm (zah hp hm)).symm
  | k+1,f,g=>by
    show add p m (sumF p m k fun i=>add p m (f i) (g i)) (add p m (f k) (g k))=add p m (add p m (sumF p m k f) (f k)) (add p m (sumF p m k g) (g k))
    rw [zb2 k f g,add_assoc hp hm,add_assoc hp hm]
    congr 1
    rw [←add_assoc hp hm,add_comm hp hm (sumF p m k g) (f k),add_assoc hp hm]
theorem zaJ {x:Nat} (hx:x<p^m):∀l:List Nat,(∀a∈l,a<p^m)→val p m t x l=sumF p m l.length fun k=>mul p m t (l.getD k 0) (pw p m t x k)
  | [],_=>rfl
  | a::r,h=>by
    have ih:=zaJ hx r fun b hb=>h b (List.mem_cons_of_mem _ hb)
    show add p m (mul p m t (val p m t x r) x) a=sumF p m (r.length+1) _
    rw [ybV hp hm (fun i=>zap hp hm _ _)]
    have e0:mul p m t ((a::r).getD 0 0) (pw p m t x 0)=a:=mul_one hp hm (h a List.mem_cons_self)
    have e1:sumF p m r.length (fun i=>mul p m t ((a::r).getD (i+1) 0) (pw p m t x (i+1)))=mul p m t (val p m t x r) x:=by
      rw [ih,←zaQ hp hm]
      refine yaf hp hm _ fun i hi=>?_
      show mul p m t (r.getD i 0) (mul p m t (pw p m t x i) x)=_
      rw [mul_assoc hp hm]
    rw [e0,e1,add_comm hp hm]
end
end Dg
end
section
-- text: MathF
set_option Elab.async false
set_option linter.all false
set_option maxRecDepth 100000
set_option maxHeartbeats 4000000
namespace Dg
noncomputable def zfQ (p m t:Nat):Bool:=(List.range (p^m)).all fun y=>pw p m t (add p m 1 y) p==add p m 1 (pw p m t y p)
noncomputable def zay (p m:Nat):Nat→List (Nat×Nat)→Bool
  | _,[]=>true
  | t,c::cs=>(if c.2=0 then zfQ p m t else true)&&zay p m (t+1) cs
noncomputable def zgu:Bool:=ydk.all fun c=>if c.2.1=1 then true else zay c.1 c.2.1 0 c.2.2
theorem yfb{α:Type}{f:α→Bool}{l:List α}(k:Nat)(a:(l.take k).all f=true)(b:(l.drop k).all f=true):l.all f=true:=by rw [←List.take_append_drop k l,List.all_append,a,b];rfl
theorem ybu{p m:Nat}:∀(k t:Nat)(cs:List (Nat×Nat)),zay p m t (cs.take k)=true→zay p m (t+k) (cs.drop k)=true→zay p m t cs=true
 |0,_,_,_,h=>h
 |_+1,_,[],_,_=>rfl
 |k+1,t,c::cs,a,b=>by
  have a:((if c.2=0 then zfQ p m t else true)&&zay p m (t+1) (cs.take k))=true:=a
  rw [Bool.and_eq_true] at a
  show ((if c.2=0 then zfQ p m t else true)&&zay p m (t+1) cs)=true
  rw [a.1,Bool.true_and]
  exact ybu k (t+1) cs a.2 (by rw [show t+1+k=t+(k+1) by lia];exact b)
noncomputable def ye1(c:Nat×Nat×List (Nat×Nat)):Bool:=if c.2.1=1 then true else zay c.1 c.2.1 0 c.2.2
noncomputable def zfM:List (Nat×Nat):=(ydk.getD 13 (0,0,[])).2.2
theorem zgw:(ydk.take 13).all ye1=true:=by decide +kernel
theorem ygr:zay 2 6 0 (zfM.take 20)=true:=by decide +kernel
theorem zgo:zay 2 6 20 ((zfM.drop 20).take 20)=true:=by decide +kernel
theorem zgt:zay 2 6 40 ((zfM.drop 20).drop 20)=true:=by decide +kernel
theorem zgv:(ydk.drop 14).all ye1=true:=by decide +kernel
theorem zgl:ye1 (ydk.getD 13 (0,0,[]))=true:=ybu 20 0 zfM ygr (ybu 20 20 _ zgo zgt)
theorem ygv:zgu=true:=yfb (f:=ye1) 13 zgw (yfb (f:=ye1) 1 ((Bool.and_true _).trans zgl) zgv)
theorem zb7 {p m:Nat}:∀(cs:List (Nat×Nat)) (t i:Nat) (c:Nat×Nat),zay p m t cs=true→cs[i]?=some c→c.2=0→zfQ p m (t+i)=true
  | [],_,_,_,_,h,_=>by cases h
  | d::cs,t,0,c,h,e,h0=>by
    cases e
    unfold zay at h
    rw [Bool.and_eq_true,if_pos h0] at h
    exact h.1
  | d::cs,t,i+1,c,h,e,h0=>by
    unfold zay at h
    rw [Bool.and_eq_true] at h
    have:=zb7 cs (t+1) i c h.2 e h0
    rw [show t+(i+1)=t+1+i by lia];exact this
section
variable {p m t:Nat} (G:Good p m t)
include G
theorem Good.pw_q {x:Nat} (hx:x<p^m):pw p m t x (p^m)=x:=by
  have h1:=zas G.hp G.hm
  rcases Nat.eq_zero_or_pos x with h|h
  · rw [h,show p^m=(p^m-1)+1 by lia,ybq G.hp G.hm]
  · rw [show pw p m t x (p^m)=pw p m t x ((p^m-1)+1) by congr 1;lia,za2 G.hp G.hm,G.fermat h hx,yb5 G.hp G.hm hx,one_mul G.hp G.hm hx]
theorem Good.frob1 {y:Nat} (hy:y<p^m):pw p m t (add p m 1 y) p=add p m 1 (pw p m t y p):=by
  obtain ⟨c,hc,e⟩:=List.mem_map.mp G.mem
  obtain ⟨p',m',cs⟩:=c
  obtain ⟨rfl,rfl⟩:p'=p∧m'=m:=by simpa using e
  by_cases h1:m'=1
  · subst h1
    have e1:=G.pw_q (ya2 (m:=1) G.hp G.hm 1 y)
    have e2:=G.pw_q hy
    rw [Nat.pow_one] at e1 e2
    rw [e1,e2]
  · have g:=List.all_eq_true.mp ycq _ hc
    have a:=List.all_eq_true.mp yf5 _ hc
    have f:=List.all_eq_true.mp ygv _ hc
    rw [Bool.and_eq_true] at g
    have g:=g.2
    dsimp only at g a f
    rw [if_neg h1] at g f
    have hl:cs.length=p'^m':=of_decide_eq_true g
    have ht:t<cs.length:=by rw [hl];exact G.top
    have a1:=zbw cs 0 t cs[t] a (List.getElem?_eq_getElem ht)
    rw [Nat.zero_add] at a1
    unfold zdE at a1
    by_cases c0:cs[t].2=0
    · have f1:=zb7 cs 0 t cs[t] f (List.getElem?_eq_getElem ht) c0
      rw [Nat.zero_add] at f1
      have:=List.all_eq_true.mp f1 y (List.mem_range.mpr hy)
      exact eq_of_beq this
    · rw [if_neg c0,Bool.and_eq_true] at a1
      have b:=of_decide_eq_true a1.1
      rcases G.no with h2|h2
      · exact absurd h2 h1
      · exact absurd (by simpa using a1.2) (h2 _ _ b.1 b.2.1 b.2.2.1 (by lia) b.2.2.2)
theorem Good.frob {x y:Nat} (hx:x<p^m) (hy:y<p^m):pw p m t (add p m x y) p=add p m (pw p m t x p) (pw p m t y p):=by
  have hp:=G.hp
  have hm:=G.hm
  rcases Nat.eq_zero_or_pos x with h|h
  · rw [h,zero_add hp hm hy,show p=(p-1)+1 by lia,ybq (by lia) (by lia),←show p=(p-1)+1 by lia,zero_add hp hm (zaA hp hm _ _)]
  · have hi:=zaA hp hm (t:=t) x (p^m-2)
    have e1:y=mul p m t x (mul p m t (pw p m t x (p^m-2)) y):=by
      rw [←mul_assoc hp hm,mul_comm hp hm x,G.inv h hx,one_mul hp hm hy]
    have e2:add p m x y=mul p m t x (add p m 1 (mul p m t (pw p m t x (p^m-2)) y)):=by
      rw [mul_add hp hm,mul_one hp hm hx,←e1]
    rw [e2,ybo hp hm,G.frob1 (zap hp hm _ _),mul_add hp hm,mul_one hp hm (zaA hp hm _ _),←ybo hp hm,←e1]
theorem Good.frobN:∀(k:Nat) {x y:Nat},x<p^m→y<p^m→pw p m t (add p m x y) (p^k)=add p m (pw p m t x (p^k)) (pw p m t y (p^k))
  | 0,x,y,hx,hy=>by
    rw [Nat.pow_zero,yb5 G.hp G.hm (ya2 G.hp G.hm _ _),yb5 G.hp G.hm hx,yb5 G.hp G.hm hy]
  | k+1,x,y,hx,hy=>by
    rw [Nat.pow_succ,zaE G.hp G.hm,zaE G.hp G.hm,zaE G.hp G.hm,Good.frobN k hx hy,G.frob (zaA G.hp G.hm _ _) (zaA G.hp G.hm _ _)]
end
end Dg
end
section
-- text: ExtRd
set_option Elab.async false
set_option linter.all false
set_option maxRecDepth 100000
namespace L2
open PySem PySem.Spec PyProof.Rows
end L2
end
section
-- text: ExtRh
set_option Elab.async false
set_option linter.all false
set_option maxRecDepth 100000
set_option maxHeartbeats 4000000
namespace L2
open PySem PySem.Spec PyProof.Rows
end L2
end
section
-- text: ExtRi
set_option Elab.async false
set_option linter.all false
set_option maxRecDepth 100000
set_option maxHeartbeats 4000000
namespace L2
open PySem PySem.Spec PyProof.Rows
end L2
end
section
-- text: ExtRj
set_option Elab.async false
set_option linter.all false
set_option maxRecDepth 100000
set_option maxHeartbeats 4000000
namespace L2
open PySem PySem.Spec PyProof.Rows PySem.W
end L2
namespace L2
open PySem PySem.Spec PyProof.Rows PySem.W
end L2
namespace L2
open PySem PySem.Spec PyProof.Rows
end L2
namespace L2
open PySem PySem.Spec PyProof.Rows
end L2
namespace L2
open PySem PySem.Spec PyProof.Rows
end L2
end
section
-- text: ExtRk
set_option Elab.async false
set_option linter.all false
set_option maxRecDepth 100000
set_option maxHeartbeats 4000000
namespace L2
open PySem PySem.Spec PyProof.Rows
end L2
namespace L2
open PySem PySem.Spec PyProof.Rows
end L2
end
section
-- text: ExtRl
set_option Elab.async false
set_option linter.all false
set_option maxRecDepth 100000
set_option maxHeartbeats 4000000
namespace L2
open PySem PySem.Spec PyProof.Rows
end L2
namespace L2
open PySem PySem.Spec PyProof.Rows
end L2
namespace L2
open PySem PySem.Spec PyProof.Rows PySem.W
end L2
end
section
-- text: ExtRm
set_option Elab.async false
set_option linter.all false
set_option maxRecDepth 100000
set_option maxHeartbeats 4000000
namespace L2
open PySem PySem.Spec PyProof.Rows
end L2
namespace L2
open PySem PySem.Spec PyProof.Rows
end L2
end
section
-- text: ExtRn
set_option Elab.async false
set_option linter.all false
set_option maxRecDepth 100000
set_option maxHeartbeats 4000000
namespace L2
open PySem PySem.Spec PyProof.Rows
end L2
end
section
-- text: ExtRo
set_option Elab.async false
set_option linter.all false
set_option maxRecDepth 100000
set_option maxHeartbeats 4000000
namespace L2
open PySem PySem.Spec PyProof.Rows
end L2
end
section
-- text: ExtRq
set_option Elab.async false
set_option linter.all false
set_option maxRecDepth 100000
set_option maxHeartbeats 4000000
namespace L2
open PySem PySem.Spec PyProof.Rows
end L2
end
section
-- text: ExtRu
set_option Elab.async false
set_option linter.all false
set_option maxRecDepth 100000
set_option maxHeartbeats 4000000
namespace L2
open PySem PySem.W PySem.Calls PyProof.Rows
local macro_rules | `(tactic| ac_rfl) => `(tactic| first | omega | (dsimp only; omega))
end L2
end
section
-- text: ExtRv
set_option Elab.async false
set_option linter.all false
set_option maxRecDepth 100000
set_option maxHeartbeats 4000000
namespace L2
open PySem PySem.W PySem.Calls PyProof.Rows
local macro_rules | `(tactic| ac_rfl) => `(tactic| first | omega | (dsimp only; omega))
end L2
end
section
-- text: ExtRw
set_option Elab.async false
set_option linter.all false
set_option maxRecDepth 100000
set_option maxHeartbeats 4000000
namespace L2
open PySem PySem.W PySem.Calls PyProof.Rows
end L2
end
section
-- text: ExtRx
set_option Elab.async false
set_option linter.all false
set_option maxRecDepth 100000
set_option maxHeartbeats 4000000
namespace L2
open PySem PySem.Spec PySem.W PySem.Calls PyProof.Rows
end L2
end
section
-- text: ExtTe
set_option Elab.async false
set_option linter.all false
set_option maxRecDepth 100000
set_option maxHeartbeats 4000000
namespace L2
open PySem PySem.Spec PyProof.Rows
section
variable {X:Cx}
noncomputable def zg5 (K:PySem.W.Frag):List V→Hp→VK→Prop:=fun xs H Q=>∃(a:Addr) (ns:List Int),xs=[.ref a]∧SqT K H a (ns.map V.int)∧Q (.int ns.sum) H
theorem ycz (ns:List Int):∀k,k≤ns.length→preSum (fun i=>ns.getD i 0) k=(ns.take k).sum
  | 0,_=>by simp [preSum]
  | k+1,h=>by
    show preSum (fun i=>ns.getD i 0) k+ns.getD k 0=_
    rw [ycz ns k (by lia),List.take_succ_eq_append_getElem (by lia),List.sum_append]
    simp [List.getD,show k<ns.length by lia]
theorem zeD (hc:X.calm=true):ybE X (.builtin "sum") (zg5 X.K):=by
  intro pins s σ H xs us Q I r h
  obtain ⟨a,ns,rfl,ha,q⟩:=h
  obtain ⟨u,rfl,rx⟩:=yb1 r
  cases rx
  obtain ⟨its,r1,p1,z1⟩:=I.tuple ha
  have l1:=r1.length
  rw [List.length_map] at l1
  refine call_sum_walkG (wpAny_pyIter_tuple p1 ?_)
  have hh:X.A.in1.handled=none:=I.ok.hd hc
  have ne:a≠s.heap.objs.size:=fun z=>by obtain ⟨o,e,_⟩:=p1;have l:s.heap.objs.size≥Nat.succ a:=Heap.lt_size e;have z':@Eq Nat a s.heap.objs.size:=z;lia
  refine ⟨_,_,_,_,_,_,fun i=>ns.getD i 0,rfl,Walks.tuple hh s.heap.objs.size a ne _,⟨⟨_,Heap.get?_push_size _ rfl,rfl,rfl⟩,zeF p1 fun o e=>Heap.get?_push_of_some _ e⟩,?_,?_,fun h' tk t' k=>?_⟩
  · intro b hb
    have hs:(s.heap.push { cls:=.type "tuple_iterator",data:=.fields #[.ref a,.int 0 0] }).objs.size=s.heap.objs.size+1:=by simp [Heap.push]
    show b<(s.heap.push { cls:=.type "tuple_iterator",data:=.fields #[.ref a,.int 0 0] }).objs.size
    rw [hs]
    simp only [List.mem_cons,List.not_mem_nil,or_false] at hb
    obtain ⟨o,e,_⟩:=p1
    have l:=Heap.lt_size e
    rcases hb with e1|e1
    · have e2:@Eq Nat b s.heap.objs.size:=e1;lia
    · have e2:@Eq Nat b a:=e1
      have l2:@LT.lt Nat _ a s.heap.objs.size:=l
      lia
  · intro i v hv
    have hv':its[i]?=some v:=by simpa using hv
    have hi:=(List.getElem?_eq_some_iff.mp hv').1
    have g1:=Vals.getR r1 i (.int (ns.getD i 0)) v (by rw [List.getElem?_map,List.getElem?_eq_getElem (by lia)];simp [List.getD,show i<ns.length by lia]) hv'
    obtain ⟨t1,rfl⟩:=g1
    exact ⟨t1,rfl⟩
  · have I1:Inv X pins σ H { s with heap:=h',toks:=tk }:=I.kept fun b o e=>k b o (by simp only [List.mem_singleton];exact Nat.ne_of_lt (Heap.lt_size e)) (Heap.get?_push_of_some _ e)
    have e:preSum (fun i=>ns.getD i 0) its.toArray.size=ns.sum:=by
      rw [List.size_toArray,ycz ns _ (by lia),List.take_of_length_le (by lia)]
    rw [e]
    exact ⟨.int _,H,I1,⟨_,rfl⟩,q⟩
end
theorem zcK {X:Cx} {K:PySem.W.Frag} (h:X.K=K) (hc:X.calm=true):ybE X (.builtin "sum") (zg5 K):=h ▸ zeD hc
end L2
end
section
-- text: ExtTf
set_option Elab.async false
set_option linter.all false
set_option maxRecDepth 100000
set_option maxHeartbeats 4000000
set_option exponentiation.threshold 1100
namespace L2
open PySem PySem.Spec PyProof.Rows
section
variable {X:Cx}
noncomputable def zgr (K:PySem.W.Frag):List V→Hp→VK→Prop:=fun vs H Q=>∃(a:Addr) (xs:List V) (ds:List PyData),vs=[.ref a]∧SqL K H a xs∧xs.length=ds.length∧(∀(i:Nat) x e,xs[i]?=some x→ds[i]?=some e→RdN K H 10 x e)∧
  PyData.showableAll ds=true∧PyData.hasDictAll ds=false∧PyData.depthAll ds≤50∧(PyData.list ds).shown.length≤sizeLine∧Q (.str (PyData.list ds).shown) H
theorem zcw (hg:X.A.guards=some []) (hu:X.A.units+64<cLine):ybE X (.builtin "repr") (zgr X.K):=by
  intro pins s σ H vs us Q I r h
  obtain ⟨a,xs,ds,rfl,ha,hl,hx,h1,h2,h3,h4,q⟩:=h
  obtain ⟨u,rfl,rx⟩:=yb1 r
  cases rx
  obtain ⟨its,r1,⟨o,n,ho,hc,_,hd⟩,z1⟩:=I.list ha
  have l1:=r1.length
  have R:Reads s.heap (.ref a) (.list ds) [a]:=.list ho hc hd (zbI (by simp;lia) fun i u e hu he=>by
    have hi:=(List.getElem?_eq_some_iff.mp hu).1
    obtain ⟨x1,e1,q1⟩:=zd6 r1 (i:=i) (by simpa using hi)
    have eu:its.toArray[i]'(by simpa using hi)=u:=by
      have:=(List.getElem?_eq_some_iff.mp hu).2
      simpa using this
    rw [eu] at q1
    exact yee I 10 x1 e u (hx i x1 e e1 he) q1)
  refine repr_of_reads' R h1 (PyData.noDict_hsm h2) hg (by show X.A.units+(PyData.depthAll ds+1+1)<cLine;lia) (fun _ _ e=>e) (fun h' u tk hk=>?_) h4
  exact ⟨.str _,H,I.kept (fun b o e=>hk b o e),⟨u,rfl⟩,q⟩
end
theorem yeJ {n:Nat} (h:n<2^400):(PyData.shown (.int (n:Int))).length≤200:=by
  have e:=int_text_length_le10 (k:=199) (a:=(n:Int)) (by decide) (Nat.lt_trans (by rw [Int.natAbs_natCast];exact h) (by decide))
  show (Str.ofString (toString (n:Int))).length≤200
  rw [PySem.ofString_length];exact e
theorem yfT {ns:List Nat} (h:∀n∈ns,n<2^400):PyData.showableAll (ns.map fun n:Nat=>PyData.int (n:Int))=true∧PyData.hasDictAll (ns.map fun n:Nat=>PyData.int (n:Int))=false∧PyData.depthAll (ns.map fun n:Nat=>PyData.int (n:Int))=0∧PyData.leavesShortAll 200 (ns.map fun n:Nat=>PyData.int (n:Int))=true∧PyData.weightAll (ns.map fun n:Nat=>PyData.int (n:Int))≤402*ns.length:=by
  induction ns with
  | nil=>exact ⟨rfl,rfl,rfl,rfl,Nat.le_refl _⟩
  | cons n ns ih =>
    obtain ⟨i1,i2,i3,i4,i5⟩:=ih fun y hy=>h y (List.mem_cons_of_mem _ hy)
    have hn:=h n List.mem_cons_self
    have lg:(n:Int).natAbs.log2<400:=by
      rw [Int.natAbs_natCast]
      rcases Nat.eq_zero_or_pos n with e|e
      · rw [e];decide
      · exact (Nat.log2_lt (Nat.ne_of_gt e)).mpr hn
    rw [List.map_cons]
    refine ⟨?_,?_,?_,?_,?_⟩
    · show (decide ((n:Int).natAbs.log2<1920)&&PyData.showableAll _)=true
      rw [i1,decide_eq_true (by lia)];rfl
    · show (false||PyData.hasDictAll _)=false
      rw [i2];rfl
    · show max 0 (PyData.depthAll _)=0
      rw [i3];rfl
    · show (decide ((PyData.shown (.int (n:Int))).length≤200)&&PyData.leavesShortAll 200 _)=true
      rw [decide_eq_true (yeJ hn),i4];rfl
    · have w1:PyData.weight (.int (n:Int))≤400:=by
        show (if (n:Int)==0 then 0 else (n:Int).natAbs.log2+1)≤400
        split <;> lia
      show PyData.weight (.int (n:Int))+1+PyData.weightAll _≤402*(ns.length+1)
      lia
theorem ygz {ns:List Nat} (h:∀n∈ns,n<2^400) (hl:ns.length≤65) (d:PyData) (ed:d = .tuple (ns.map fun n:Nat=>PyData.int (n:Int))):PyData.showableAll [d,d]=true∧PyData.hasDictAll [d,d]=false∧PyData.depthAll [d,d]≤50∧(PyData.list [d,d]).shown.length≤sizeLine:=by
  obtain ⟨a1,a2,a3,a4,a5⟩:=yfT h
  subst ed
  refine ⟨?_,?_,?_,?_⟩
  · show (PyData.showableAll _&&(PyData.showableAll _&&true))=true
    rw [a1];rfl
  · show (PyData.hasDictAll _||(PyData.hasDictAll _||false))=false
    rw [a2];rfl
  · show max (PyData.depthAll _+1) (max (PyData.depthAll _+1) 0)≤50
    rw [a3];decide
  · have hs:=PyData.shown_le 200 (by decide) (.list [.tuple (ns.map fun n:Nat=>PyData.int (n:Int)),.tuple (ns.map fun n:Nat=>PyData.int (n:Int))]) (by
      show (PyData.leavesShortAll 200 _&&(PyData.leavesShortAll 200 _&&true))=true
      rw [a4];rfl)
    have hw:PyData.weight (.list [.tuple (ns.map fun n:Nat=>PyData.int (n:Int)),.tuple (ns.map fun n:Nat=>PyData.int (n:Int))])≤52300:=by
      show PyData.weightAll _+1+(PyData.weightAll _+1+0)≤52300
      lia
    rw [sizeLine_eq]
    lia
end L2
end
section
-- text: P1
set_option Elab.async false
set_option linter.all false
set_option maxRecDepth 100000
set_option maxHeartbeats 4000000
namespace My
open PySem L2 Dg
noncomputable def top (i:Nat):Stmt:=PySem.Challenge.pw_roundwords_k58_facing_counts.main.body.getD i (.Pass ⟨0,0,0,0⟩)
noncomputable abbrev zcb:Stmt:=top 1
noncomputable abbrev yay:Stmt:=top 2
noncomputable abbrev zbp:Stmt:=top 4
noncomputable abbrev zbK:Stmt:=top 5
noncomputable abbrev ybg:Stmt:=top 6
noncomputable abbrev zbe:Stmt:=top 7
noncomputable abbrev ybe:Stmt:=top 8
noncomputable abbrev za6:Stmt:=top 9
noncomputable abbrev zaK:Stmt:=top 10
noncomputable abbrev za1:Stmt:=top 11
noncomputable abbrev za0:Stmt:=top 12
noncomputable abbrev zbH:Stmt:=top 13
noncomputable abbrev zbm:Stmt:=top 14
noncomputable abbrev zbt:Stmt:=top 15
noncomputable abbrev ybt:Stmt:=top 16
noncomputable abbrev ybk:Stmt:=top 17
noncomputable abbrev zbL:Stmt:=top 18
noncomputable abbrev zat:Stmt:=top 19
noncomputable abbrev zaN:Stmt:=top 20
noncomputable abbrev ybp:Stmt:=top 21
noncomputable abbrev ya3:Stmt:=top 22
noncomputable abbrev yaO:Stmt:=top 23
noncomputable abbrev yaI:Stmt:=top 24
noncomputable abbrev zaG:Stmt:=top 25
noncomputable abbrev yaS:Stmt:=top 26
noncomputable abbrev zaT:Stmt:=top 27
noncomputable abbrev yc2:Stmt:=top 28
noncomputable def zg1:List Str:=["range","len","abs","min","max","all","any","isinstance","int","bool","tuple","list","zip","enumerate","repr","dict","reversed","sorted","sum","set","str"]
noncomputable abbrev Bl (mg:Str→Option Value):Prop:=∀x∈zg1,mg x=none
noncomputable def Fld (K:PySem.W.Frag) (H:Hp) (a:Addr) (p m t:Nat):Prop:=SqT K H a [.int p,.int m,.int t]
theorem Same.tup {K:PySem.W.Frag} {H H':Hp} {a:Addr} {xs:List V} (e:Same H H') (h:SqT K H a xs):SqT K H' a xs:=by
  rcases h with (h | ⟨o,h⟩)|h
  · exact .inl (.inl (e _ _ h))
  · exact .inl (.inr ⟨o,e _ _ h⟩)
  · exact .inr h
noncomputable def mI (σ:St) (i:Nat):Nat:=match σ[i]? with
  | some (some (.int n))=>n.toNat
  | _=>0
local macro_rules | `(tactic| walk_at "rd") => `(tactic| repeat (first | refine ⟨_, rfl, ?_⟩ | refine ⟨_, _, rfl, rfl, ?_⟩))
theorem ygU {t u:TT} {σ:St} {H:Hp} {Q:Bool→Hp→Prop} {b1 b2:Bool} (h1:∀Q:Bool→Hp→Prop,Q b1 H→t σ H Q) (h2:∀Q:Bool→Hp→Prop,Q b2 H→u σ H Q) (q:Q (b1||b2) H):tOr t u σ H Q:=by
  refine h1 _ ?_
  cases b1
  · exact h2 _ q
  · exact q
section
variable {P:Program} {w:World} {K:PySem.W.Frag} {mg:Str→Option Value} {base:Heap} {f:Addr} {fd:FuncData}
inductive yah (vs:List V) (H:Hp) (Q:VK) (E:XK):Prop
  | mk (b k:Nat) (c1:vs=[.int b,.int k]) (c2:b≤64) (c3:k≤1000) (c4:Q (.int ((b^k:Nat):Int)) H):yah vs H Q E
theorem yfk {i j:Int} (h:i=j):V.int i=V.int j:=congrArg V.int h
theorem p_le {p m:Nat} (hp:2≤p) (hm:1≤m) (h:p^m≤64):p≤64:=Nat.le_trans (by simpa using Nat.pow_le_pow_right (n:=p) (by lia) hm) h
theorem m_le {p m:Nat} (hp:2≤p) (h:p^m≤64):m≤6:=by
  rcases Nat.lt_or_ge 6 m with h1|h1
  · have:=Nat.pow_le_pow_left hp m
    have:=Nat.pow_le_pow_right (n:=2) (by lia) h1
    lia
  · exact h1
end
end My
end
section
-- text: P2
set_option Elab.async false
set_option linter.all false
set_option maxRecDepth 100000
set_option maxHeartbeats 4000000
namespace My
open PySem L2 Dg
local macro_rules | `(tactic| walk_at "rd") => `(tactic| repeat (first | refine ⟨_, rfl, ?_⟩ | refine ⟨_, _, rfl, rfl, ?_⟩))
theorem yaa {H:Hp} {p:Addr} (h:H p=none) (o:HO):Same H (upd H p o):=fun b u q=>by rw [zad (zac q h)];exact q
noncomputable abbrev Vn (n:Nat):V:=.int (n:Int)
noncomputable def Pu (H:Hp) (a g:Addr):Prop:=∃(ns:List Nat) (s t:Nat),H a=some (.lst [.ref g,Vn s,Vn t])∧H g=some (.lst (ns.map Vn))
theorem Pu.ne {H:Hp} {a g:Addr} (h:Pu H a g):a≠g:=by
  obtain ⟨ns,s,t,h1,h2⟩:=h
  intro e;subst e;rw [h1] at h2
  have h3:=HO.lst.inj (Option.some.inj h2)
  cases ns with
  | nil=>cases h3
  | cons n ns=>cases h3
noncomputable def yaj (a g:Addr) (H H':Hp):Prop:=∀b o,b≠a→b≠g→H b=some o→H' b=some o
theorem yaj.refl {a g:Addr} {H:Hp}:yaj a g H H:=fun _ _ _ _ e=>e
theorem yaj.trans {a g:Addr} {H H1 H2:Hp} (h1:yaj a g H H1) (h2:yaj a g H1 H2):yaj a g H H2:=fun b o n1 n2 e=>h2 b o n1 n2 (h1 b o n1 n2 e)
theorem Same.x {a g:Addr} {H H1:Hp} (h:Same H H1):yaj a g H H1:=fun b o _ _ e=>h b o e
theorem Pu.same {H H':Hp} {a g:Addr} (h:Pu H a g) (s:Same H H'):Pu H' a g:=by
  obtain ⟨ns,x,t,h1,h2⟩:=h
  exact ⟨ns,x,t,s _ _ h1,s _ _ h2⟩
theorem szl (n:Nat) (h:n≤100000:=by lia):n≤sizeLine:=by rw [sizeLine_eq];lia
section
variable {P:Program} {w:World} {K:PySem.W.Frag} {mg:Str→Option Value} {base:Heap} {f:Addr} {fd:FuncData}
theorem yaL:yai ["_law_one","_law_many","_law_found","_law_turn"] ["_law_one","_law_many"] (yac ybg):=⟨rfl,rfl,rfl,by decide +kernel,rfl,by decide +kernel,by decide +kernel⟩
theorem zeC (B:Bl mg) (F:Fun K "_law_raised" "_law_raised" ybg f fd):FnOk P w K mg base CX0 1 f fd ["_law_one","_law_many"] yah:=by
  refine F.ok yaL (fun vs H Q E h=>?_) (fun cdv A outer s H vs Q E hr h=>?_)
  · obtain ⟨b,k,rfl,_⟩:=h;rfl
  obtain ⟨b,k,rfl,hb,hk,q⟩:=h
  refine ⟨_,((2<|>yaL.nd<|>yab)<=<((↑((pv 1)>=>zab))<&>((3&&&yaL.nd),(~~~(2<|>yaL.nd<|>(yaH|||(pv 2)|||(pv 0))))))<=<(~~~((pv 2)⁻¹))),?_⟩
  refine ⟨_,rfl,k,rfl,by lia,by lia,yaz (n:=k) (fun i σ H'=>H'=H∧∃s,σ=[some (.int b),some (.int k),some (.int ((b^i:Nat):Int)),s]) ⟨rfl,none,rfl⟩ ?_ ?_⟩
  · rintro i σ H' hi ⟨rfl,s,rfl⟩
    walk_at "rd"
    refine ⟨.inr ⟨by lia,by lia⟩,rfl,some (.int (0+(i:Int))),?_⟩
    rw [Nat.pow_succ];rfl
  · rintro σ H' ⟨rfl,s,rfl⟩
    exact ⟨_,rfl,q⟩
noncomputable def digL (p m x:Nat):List V:=(List.range m).map fun i=>Vn (dg p i x)
theorem ye5 (p m x:Nat):digL p (m+1) x=digL p m x++[Vn (dg p m x)]:=by unfold digL;rw [List.range_succ,List.map_append];rfl
theorem ybc (p m x:Nat):(digL p m x).length=m:=by simp [digL]
inductive zcB (K:PySem.W.Frag) (vs:List V) (H:Hp) (Q:VK) (E:XK):Prop
  | mk (a:Addr) (p m t x:Nat) (c1:vs=[.ref a,.int x]) (c2:Fld K H a p m t) (c3:2≤p) (c4:p≤64) (c5:m≤64) (c6:∀r H',H r=none→Same H H'→H' r=some (.lst (digL p m x))→Q (.ref r) H'):zcB K vs H Q E
theorem zaM:yai ["_law_field_here","_law_thing","_law_found","_law_k"] ["_law_field_here","_law_thing"] (yac zbe):=⟨rfl,rfl,rfl,by decide +kernel,rfl,by decide +kernel,by decide +kernel⟩
theorem yff (B:Bl mg) (F:Fun K "_law_digits" "_law_digits" zbe f fd):FnOk P w K mg base CX0 1 f fd ["_law_field_here","_law_thing"] (zcB K):=by
  refine F.ok zaM (fun vs H Q E h=>?_) (fun cdv A outer s H vs Q E hr h=>?_)
  · obtain ⟨a,p,m,t,x,rfl,_⟩:=h;rfl
  obtain ⟨a,p,m,t,x,rfl,hF,hp,hp2,hm,q⟩:=h
  refine ⟨_,((2<|>zaM.nd<|>(@yam _ _ _ _ zab))<=<((↑((yas<<<(pv 0)<<<yab)>=>zab))<&>((3&&&zaM.nd),((@zbW _ _ _ _ (@zet _ _ _ _ _ _ _ _ _ _ _ _ PySem.F.plainAttrs_list PySem.F.slot_list_append PySem.F.type_list_append ybP (pv 2) ((yaB|||(pv 1)|||(yas<<<(pv 0)<<<yab))>=>zab) (by rfl) (by rfl) (by rfl) (by rfl) (by rfl)) (by rfl))<=<(~~~(1<|>zaM.nd<|>(zcF|||(pv 1)|||(yas<<<(pv 0)<<<yab)))))))<=<(~~~((pv 2)⁻¹))),?_⟩
  refine ⟨szl 0,fun l hl=>?_⟩
  have g1:Same H (upd H l (.lst [])):=yaa hl _
  refine ⟨_,rfl,a,_,_,_,rfl,rfl,Same.tup g1 hF,rfl,m,rfl,by lia,by lia,yaz (n:=m) (fun i σ H'=>H'=upd H l (.lst (digL p i x))∧∃s,σ=[some (.ref a),some (.int ((x/p^i:Nat):Int)),some (.ref l),s]) ⟨rfl,none,by simp;rfl⟩ ?_ ?_⟩
  · rintro i σ H' hi ⟨rfl,s,rfl⟩
    have g2:Same H (upd H l (.lst (digL p i x))):=yaa hl _
    refine ⟨_,rfl,.inl ⟨rfl,_,SqL.of zaa⟩,?_⟩
    walk_at "rd"
    refine ⟨a,_,_,_,rfl,rfl,Same.tup g2 hF,rfl,?_⟩
    walk_at "rd"
    refine ⟨by show (0:Int)<p;lia,l,_,_,rfl,rfl,zaa,by rw [ybc];exact Nat.lt_of_le_of_lt (show i≤1000 by lia) (zaf (Nat.le_refl _)),?_⟩
    rw [zd4]
    have g3:Same H (upd H l (.lst (digL p (i+1) x))):=yaa hl _
    have e1:digL p i x++[V.int (((x/p^i:Nat):Int)%(p:Int))]=digL p (i+1) x:=by rw [ye5];rfl
    rw [e1]
    refine ⟨_,rfl,_,rfl,a,_,_,_,rfl,rfl,Same.tup g3 hF,rfl,?_⟩
    walk_at "rd"
    refine ⟨⟨by show (0:Int)<p;lia,by show (p:Int)<2^64;lia⟩,rfl,some (.int (0+(i:Int))),?_⟩
    rw [Nat.pow_succ,←Nat.div_div_eq_div_mul];rfl
  · rintro σ H' ⟨rfl,s,rfl⟩
    exact ⟨_,rfl,q l _ hl (yaa hl _) zaa⟩
noncomputable def num (p:Nat):List Nat→Nat
  | []=>0
  | d::ds=>num p ds*p+d
theorem zeL {p:Nat} (hp:2≤p):∀(ds:List Nat),(∀d∈ds,d<p)→∀i,dg p i (num p ds)=ds.getD i 0
  | [],_,i=>by simp [num,ybG]
  | d::ds,h,i=>by
    have hd:d<p:=h d List.mem_cons_self
    have ih:=zeL hp ds fun x hx=>h x (List.mem_cons_of_mem _ hx)
    cases i with
    | zero=>rw [zbo];show (num p ds*p+d)%p=d;rw [Nat.mul_comm,Nat.mul_add_mod,Nat.mod_eq_of_lt hd]
    | succ i =>
      rw [ybn]
      show dg p i ((num p ds*p+d)/p)=ds.getD i 0
      rw [Nat.mul_comm,Nat.mul_add_div (by lia),Nat.div_eq_of_lt hd,Nat.add_zero]
      exact ih i
inductive ycv (K:PySem.W.Frag) (vs:List V) (H:Hp) (Q:VK) (E:XK):Prop
  | mk (a b:Addr) (p m t:Nat) (ds:List Nat) (c1:vs=[.ref a,.ref b]) (c2:Fld K H a p m t) (c3:2≤p) (c4:p≤64) (c5:SqL K H b (ds.map Vn)) (c6:∀H',Same H H'→Q (Vn (num p ds)) H'):ycv K vs H Q E
theorem yaJ:yai ["_law_field_here","_law_digits_here","_law_found","_law_digit"] ["_law_field_here","_law_digits_here"] (yac ybe):=⟨rfl,rfl,rfl,by decide +kernel,rfl,by decide +kernel,by decide +kernel⟩
theorem yfx (B:Bl mg) (F:Fun K "_law_number" "_law_number" ybe f fd):FnOk P w K mg base CX0 1 f fd ["_law_field_here","_law_digits_here"] (ycv K):=by
  refine F.ok yaJ (fun vs H Q E h=>?_) (fun cdv A outer s H vs Q E hr h=>?_)
  · obtain ⟨a,b,p,m,t,ds,rfl,_⟩:=h;rfl
  obtain ⟨a,b,p,m,t,ds,rfl,hF,hp,hp2,hb,q⟩:=h
  refine ⟨_,((2<|>yaJ.nd<|>yab)<=<((@zaI _ _ _ _ (@ygT _ _ _ _ _ _ _ _ (pv 1)))<&>((3&&&yaJ.nd),(~~~(2<|>yaJ.nd<|>(zan|||(yaH|||(pv 2)|||(yas<<<(pv 0)<<<yab))|||(pv 3))))))<=<(~~~((pv 2)⁻¹))),?_⟩
  refine ⟨_,rfl,b,_,rfl,hb,fun l hl=>?_⟩
  have g1:Same H (upd H l (.lst (ds.map Vn).reverse)):=yaa hl _
  refine ⟨l,rfl,⟨_,SqL.of zaa⟩,ydc (xs:=(ds.map Vn).reverse) (fun i σ H'=>H'=upd H l (.lst (ds.map Vn).reverse)∧∃s,σ=[some (.ref a),some (.ref b),some (Vn (num p (ds.drop (ds.length-i)))),s]) ⟨rfl,none,by rw [Nat.sub_zero,List.drop_length];rfl⟩ ?_ ?_ ?_⟩
  · rintro i σ H' hi ⟨rfl,_⟩;exact SqL.of zaa
  · rintro i x σ H' hx ⟨rfl,s,rfl⟩
    have hi:i<ds.length:=by have:=(List.getElem?_eq_some_iff.mp hx).1;simpa using this
    have ex:x=Vn (ds[ds.length-1-i]):=by
      rw [List.getElem?_reverse (by simpa using hi),List.getElem?_map,List.length_map,List.getElem?_eq_getElem (by lia)] at hx
      exact (Option.some.inj hx).symm
    subst ex
    walk_at "rd"
    refine ⟨a,_,_,_,rfl,rfl,Same.tup g1 hF,rfl,?_⟩
    walk_at "rd"
    refine ⟨.inr ⟨by show -(2^64:Int)<(p:Int);lia,by show (p:Int)<2^64;lia⟩,?_⟩
    walk_at "rd"
    refine ⟨rfl,some (Vn (ds[ds.length-1-i])),?_⟩
    have e:ds.drop (ds.length-(i+1))=ds[ds.length-1-i]::ds.drop (ds.length-i):=by
      rw [show ds.length-(i+1)=ds.length-1-i by lia,List.drop_eq_getElem_cons (by lia)]
      congr 2;lia
    rw [e];rfl
  · rintro σ H' ⟨rfl,s,rfl⟩
    refine ⟨_,rfl,?_⟩
    have e:ds.length-(ds.map Vn).reverse.length=0:=by simp
    rw [e,List.drop_zero]
    exact q _ g1
inductive zcV (K:PySem.W.Frag) (vs:List V) (H:Hp) (Q:VK) (E:XK):Prop
  | mk (a:Addr) (ns:List Int) (c1:vs=[.ref a]) (c2:SqL K H a (ns.map V.int)) (c3:∀r g H',H r=none→H g=none→Same H H'→Pu H' r g→Q (.ref r) H'):zcV K vs H Q E
theorem zaS:yai ["_law_script","_law_seed","_law_great","_law_cell"] ["_law_script"] (yac zbp):=⟨rfl,rfl,rfl,by decide +kernel,rfl,by decide +kernel,by decide +kernel⟩
theorem zgf {i:Int} (h:0≤i):∃n:Nat,V.int i=Vn n:=by obtain ⟨n,e⟩:=Int.eq_ofNat_of_zero_le h;exact ⟨n,by rw [e]⟩
theorem zfU (B:Bl mg) (F:Fun K "_law_purse" "_law_purse" zbp f fd):FnOk P w K mg base CX0 1 f fd ["_law_script"] (zcV K):=by
  refine F.ok zaS (fun vs H Q E h=>?_) (fun cdv A outer s H vs Q E hr h=>?_)
  · obtain ⟨a,ns,rfl,_⟩:=h;rfl
  obtain ⟨a,ns,rfl,ha,q⟩:=h
  refine ⟨_,((@zbP _ _ 1 2 _ _ _ _ _ _ _ _ _ _ _ rfl zaS.nd rfl rfl (by decide) rfl rfl (yab>=>(@yam _ _ _ _ zab)>=>zab) rfl (by rfl))<=<((@zaI _ _ _ _ (@ybM _ _ _ _ _ _ _ _ _ _ zdF (pv 0) yci (@zcg _ _ _ yab)))<&>((3&&&zaS.nd),((1<|>zaS.nd<|>(yaB|||(zan|||(zan|||(yaH|||(pv 1)|||yab)|||(yaB|||(pv 3)|||yab))|||yab)|||yab))<=<(~~~((yhi∪(zef>>>("abs",zcl,((pv 3)>=>zab)))∪(zd5|||yab|||yab))*>((~~~(@zbW _ _ _ _ (@zet _ _ _ _ _ _ _ _ _ _ _ _ PySem.F.plainAttrs_list PySem.F.slot_list_append PySem.F.type_list_append ybP (pv 2) ((yaB|||(zef>>>("abs",zcl,((pv 3)>=>zab)))|||(zfr|||(zd5|||yab|||yab)|||(zd5|||yab|||yab)))>=>zab) (by rfl) (by rfl) (by rfl) (by rfl) (by rfl)) (by rfl))),zaC))))))<=<(~~~((@yam _ _ _ _ ((pv 2)>=>(pv 1)>=>yab>=>zab))⁻¹))),?_⟩
  refine ⟨szl 0,fun g hg=>?_⟩
  have g1:Same H (upd H g (.lst [])):=yaa hg _
  refine ⟨_,_,rfl,?_⟩
  refine ⟨_,rfl,_,rfl,a,_,rfl,g1.seq ha,fun l hl=>?_⟩
  generalize hcut:cutV (ns.map V.int) none (some 40)=cs
  have hcs:∀x∈cs,∃i:Int,x = .int i:=fun x hx=>by
    rw [←hcut] at hx
    unfold cutV at hx
    obtain ⟨i,_,e⟩:=List.mem_map.mp (List.mem_of_mem_drop (List.mem_of_mem_take hx))
    exact ⟨i,e.symm⟩
  have hlen:cs.length≤40:=by
    rw [←hcut];unfold cutV
    rw [List.length_take,show HT.sIx (ns.map V.int).length (ns.map V.int).length (some 40)=min 40 (ns.map V.int).length from HT.sIx_nat _ _ 40]
    lia
  have hgl:l≠g:=fun e=>by rw [e,zaa] at hl;cases hl
  refine ⟨l,rfl,⟨_,SqL.of zaa⟩,ydc (xs:=cs) (fun i σ H'=>(∃(s:Nat) (x:Option V) (gs:List Nat),gs.length≤i∧σ=[some (.ref a),some (Vn s),some (.ref g),x]∧H' g=some (.lst (gs.map Vn)))∧Same H H'∧H' l=some (.lst cs))
    ⟨⟨7,none,[],Nat.le_refl _,rfl,by rw [zad (Ne.symm hgl)];exact zaa⟩,g1.trans (yaa hl _),zaa⟩ ?_ ?_ ?_⟩
  · rintro i σ H' hi ⟨_,_,h⟩;exact SqL.of h
  · rintro i x σ H' hx ⟨⟨s,x0,gs,hgs,rfl,hg'⟩,sm,hl'⟩
    obtain ⟨c,rfl⟩:=hcs x (List.mem_of_getElem? hx)
    have hi:i<cs.length:=(List.getElem?_eq_some_iff.mp hx).1
    walk_at "rd"
    refine ⟨.inr ⟨by decide,by decide⟩,?_⟩
    walk_at "rd"
    refine ⟨by show (0:Int)<2305843009213693951;decide,?_⟩
    walk_at "rd"
    refine ⟨by show (0:Int)<2305843009213693951;decide,?_⟩
    obtain ⟨s',es⟩:=zgf (i:=((s:Int)*1000003+c%2305843009213693951+12345)%2305843009213693951) (Int.emod_nonneg _ (by decide))
    dsimp only [yan];rw [es]
    refine ⟨_,rfl,_,rfl,_,_,rfl,rfl,⟨by decide,by decide,by decide⟩,?_⟩
    refine ⟨_,_,rfl,rfl,_,rfl,?_⟩
    refine ite2 (fun c2=>?_) (fun c2=>?_)
    · refine ⟨_,rfl,.inl ⟨rfl,_,SqL.of hg'⟩,?_⟩
      refine ⟨_,rfl,_,rfl,_,_,rfl,rfl,⟨by decide,by decide,by decide⟩,?_⟩
      refine ⟨_,_,rfl,rfl,⟨by decide,by decide,by decide⟩,?_⟩
      refine ⟨_,_,rfl,rfl,IntMulOk.of_bits (by decide +kernel) (by decide +kernel),?_⟩
      refine ⟨_,_,rfl,rfl,by show (0:Int)<10^Int.toNat 60*10^Int.toNat 60;decide +kernel,?_⟩
      obtain ⟨d,ed⟩:=zgf (i:=(if c<0 then -c else c)%(10^(60:Int).toNat*10^(60:Int).toNat)) (Int.emod_nonneg _ (by decide))
      (try dsimp only);rw [ed]
      refine ⟨g,_,_,rfl,rfl,hg',?_,⟨s',some (.int c),gs++[d],by simp;lia,rfl,by rw [zaa,List.map_append];rfl⟩,?_,?_⟩
      · rw [List.length_map];exact Nat.lt_of_le_of_lt (show gs.length≤1000 by lia) (zaf (Nat.le_refl _))
      · intro b o e
        rw [zad (zac e hg)]
        exact sm b o e
      · rw [zad hgl];exact hl'
    · exact ⟨⟨s',some (.int c),gs,by lia,rfl,hg'⟩,sm,hl'⟩
  · rintro σ H' ⟨⟨s,x,gs,hgs,rfl,hg'⟩,sm,_⟩
    refine ⟨_,rfl,_,rfl,szl 3,fun r hr=>?_⟩
    have ne:g≠r:=zac hg' hr
    refine q r g _ (sm.free hr) hg (sm.trans (yaa hr _)) ⟨gs,s,0,zaa,?_⟩
    rw [zad ne];exact hg'
theorem yc0 {α:Type} (x:α) (xs:List α):atI (x::xs) 0=some x:=zaW (j:=0) rfl
theorem zej {n:Nat} (h:0<n):ixN n 0=some 0:=by
  unfold ixN
  rw [if_pos (by decide),if_pos (by lia)];rfl
theorem ya7 {t u:TS} {D:Ends} {σ:St} {H:Hp} (Ex:St→Hp→Prop) (r:∀σ' H',Ex σ' H'→u D σ' H') (h:∀D':Ends,D'.rt=D.rt→D'.bk=D.bk→D'.ct=D.ct→(∀σ' H',Ex σ' H'→D'.nx σ' H')→t D' σ H):tSeq t u D σ H:=h _ rfl rfl rfl r
inductive ybX (vs:List V) (H:Hp) (Q:VK) (E:XK):Prop
  | mk (a g:Addr) (n:Nat) (c1:vs=[.ref a,Vn n]) (c2:Pu H a g) (c3:0<n) (c4:n<2^200) (c5:∀(r:Nat) H',r<n→Pu H' a g→yaj a g H H'→Q (Vn r) H'):ybX vs H Q E
noncomputable def zcZ (H:Hp) (g:Addr):Nat:=match H g with
  | some (.lst xs)=>xs.length
  | _=>0
theorem ybC {H:Hp} {g:Addr} {xs:List V} (h:H g=some (.lst xs)):zcZ H g=xs.length:=by unfold zcZ;rw [h]
theorem modn {x:Int} {n:Nat} (h:0<n):∃r:Nat,r<n∧V.int (x%(n:Int))=Vn r:=by
  have h1:=Int.emod_nonneg x (show (n:Int)≠0 by lia)
  have h2:=Int.emod_lt_of_pos x (show (0:Int)<n by lia)
  exact ⟨(x%(n:Int)).toNat,by lia,by show V.int _=V.int _;congr 1;lia⟩
theorem zaF:yai ["_law_purse_here","_law_many","_law_digit","_law_turn","_law_prime","_law_once","_law_mixed"] ["_law_purse_here","_law_many"] (yac zbK):=⟨rfl,rfl,rfl,by decide +kernel,rfl,by decide +kernel,by decide +kernel⟩
theorem ygE (B:Bl mg) (F:Fun K "_law_pick" "_law_pick" zbK f fd):FnOk P w K mg base CX0 1 f fd ["_law_purse_here","_law_many"] ybX:=by
  refine F.ok zaF (fun vs H Q E h=>?_) (fun cdv A outer s H vs Q E hr h=>?_)
  · obtain ⟨a,g,n,rfl,_⟩:=h;rfl
  obtain ⟨a,g,n,rfl,hP,hn,hn2,q⟩:=h
  have nag:=hP.ne
  refine ⟨_,((@zbz _ _ _ _ _ _ PassesOwn.never (@PW.pt _ _ _ (@zfk _ _ _ _ _ _ _ ((yf6 hr.units0)∪(zai<<<(pv 0)<<<yab)∪(@yam _ _ _ _ zab)) (@ydZ _ _ _ _ (ybJ∪(zai<<<(zai<<<(pv 0)<<<yab)<<<yab)∪yab)))) (~~~(@zbW _ _ _ _ (@zet _ _ _ _ _ _ _ _ _ _ _ _ PySem.F.plainAttrs_list PySem.F.slot_list_pop PySem.F.type_list_pop yfY (zai<<<(pv 0)<<<yab) (yab>=>zab) (by rfl) (by rfl) (by rfl) (by rfl) (by rfl)) (by rfl))))<=<(((yf6 hr.units0)∪(zai<<<(pv 0)<<<yab)∪(@yam _ _ _ _ zab))*>(((2<|>zaF.nd<|>(yaB|||(zai<<<(zai<<<(pv 0)<<<yab)<<<yab)|||(pv 1)))<=<(@zco _ _ _ _ _ _ (zdD|||(zai<<<(zai<<<(pv 0)<<<yab)<<<yab)|||(pv 1)) (@ycH _ _ _ _ _ _ _ (zai<<<(pv 0)<<<yab) yab zbD (by intro _;rfl)) (by rfl) (by rfl) (by rfl))<=<(~~~((pv 2)⁻¹))),zaC))<=<(@zco _ _ _ _ _ _ (zan|||(zai<<<(pv 0)<<<yab)|||yab) (@ycH _ _ _ _ _ _ _ (pv 0) yab zbD (by intro _;rfl)) (by rfl) (by rfl) (by rfl))<=<(3<|>zaF.nd<|>(zai<<<(pv 0)<<<yab))<=<(4<|>zaF.nd<|>(zai<<<(@yam _ _ _ _ (yab>=>yab>=>yab>=>yab>=>yab>=>yab>=>yab>=>zab))<<<(yaB|||(pv 3)|||yab)))<=<(5<|>zaF.nd<|>(yaB|||(zan|||(zai<<<(pv 0)<<<yab)|||(yaH|||yab|||(pv 3)))|||yab))<=<(6<|>zaF.nd<|>(yaH|||(yaB|||(zd5|||(pv 5)|||yab)|||yab)|||(zan|||(yaH|||yab|||(pv 3))|||yab)))<=<(~~~((yaB|||(zcF|||(yaB|||(zan|||(pv 6)|||(zcF|||(zai<<<(pv 0)<<<yab)|||yab))|||(pv 4))|||yab)|||(pv 1))⁻¹))),?_⟩
  refine ya7 (fun σ H'=>σ=[some (.ref a),some (Vn n),none,none,none,none,none]∧Pu H' a g∧yaj a g H H') ?_ ?_
  · rintro σ H' ⟨rfl,⟨ns,x,t,ha,hg⟩,sm⟩
    refine ya7 (fun σ H1=>ns=[]∧σ=[some (.ref a),some (Vn n),none,none,none,none,none]∧H1 a=some (.lst [.ref g,Vn x,Vn t])∧H1 g=some (.lst [])∧yaj a g H H1) ?_ ?_
    · rintro σ H1 ⟨rfl,rfl,ha,hg,sm⟩
      refine ⟨_,rfl,a,_,_,_,rfl,rfl,SqL.of ha,rfl,?_⟩
      refine ⟨_,_,rfl,rfl,?_⟩
      refine ⟨_,rfl,a,_,2,2,rfl,rfl,ha,rfl,?_⟩
      have h1:(upd H1 a (.lst [.ref g,Vn x,.int ((t:Int)+1)])) a=some (.lst [.ref g,Vn x,Vn (t+1)]):=zaa
      have h2:(upd H1 a (.lst [.ref g,Vn x,.int ((t:Int)+1)])) g=some (.lst []):=by rw [zad (Ne.symm nag)];exact hg
      have h3:yaj a g H (upd H1 a (.lst [.ref g,Vn x,.int ((t:Int)+1)])):=fun b o n1 n2 e=>by rw [zad n1];exact sm b o n1 n2 e
      change tSeq _ _ _ _ (upd H1 a (.lst [.ref g,Vn x,.int ((t:Int)+1)]))
      generalize upd H1 a (.lst [.ref g,Vn x,.int ((t:Int)+1)])=H2 at h1 h2 h3 ⊢
      refine ⟨_,rfl,a,_,_,_,rfl,rfl,SqL.of h1,rfl,?_⟩
      refine ⟨szl 7,fun l hl=>?_⟩
      have nla:a≠l:=zac h1 hl
      have nlg:g≠l:=zac h2 hl
      refine ⟨_,rfl,_,_,rfl,rfl,by show (0:Int)<7;decide,?_⟩
      obtain ⟨k,hk,ek⟩:=modn (x:=((t+1:Nat):Int)) (n:=7) (by lia)
      have hprime:∃pr:Nat,61<pr∧atI [V.int 2147483629,.int 2147483587,.int 2147483579,.int 2147483563,.int 2147483549,.int 2147483543,.int 2147483497] (k:Int)=some (Vn pr):=by
        have:k=0∨k=1∨k=2∨k=3∨k=4∨k=5∨k=6:=by lia
        rcases this with rfl|rfl|rfl|rfl|rfl|rfl|rfl
        · exact ⟨2147483629,by decide,rfl⟩
        · exact ⟨2147483587,by decide,rfl⟩
        · exact ⟨2147483579,by decide,rfl⟩
        · exact ⟨2147483563,by decide,rfl⟩
        · exact ⟨2147483549,by decide,rfl⟩
        · exact ⟨2147483543,by decide,rfl⟩
        · exact ⟨2147483497,by decide,rfl⟩
      obtain ⟨pr,hpr,epr⟩:=hprime
      have ek':((t+1:Nat):Int)%(7:Int)=(k:Int):=by have:=V.int.inj ek;exact this
      refine ⟨l,_,k,Vn pr,rfl,ek,SqL.of zaa,epr,?_⟩
      have h1':(upd H2 l (.lst [V.int 2147483629,.int 2147483587,.int 2147483579,.int 2147483563,.int 2147483549,.int 2147483543,.int 2147483497])) a=some (.lst [.ref g,Vn x,Vn (t+1)]):=by rw [zad nla];exact h1
      have h2':(upd H2 l (.lst [V.int 2147483629,.int 2147483587,.int 2147483579,.int 2147483563,.int 2147483549,.int 2147483543,.int 2147483497])) g=some (.lst []):=by rw [zad nlg];exact h2
      have h3':yaj a g H (upd H2 l (.lst [V.int 2147483629,.int 2147483587,.int 2147483579,.int 2147483563,.int 2147483549,.int 2147483543,.int 2147483497])):=h3.trans (Same.x (yaa hl _))
      change tSeq _ _ _ _ (upd H2 l (.lst [V.int 2147483629,.int 2147483587,.int 2147483579,.int 2147483563,.int 2147483549,.int 2147483543,.int 2147483497]))
      generalize upd H2 l (.lst [V.int 2147483629,.int 2147483587,.int 2147483579,.int 2147483563,.int 2147483549,.int 2147483543,.int 2147483497])=H3 at h1' h2' h3' ⊢
      refine ⟨_,rfl,a,_,_,_,rfl,rfl,SqL.of h1',rfl,?_⟩
      refine ⟨_,rfl,_,_,rfl,rfl,.inl ⟨by decide,by decide⟩,?_⟩
      refine ⟨_,_,rfl,rfl,?_⟩
      refine ⟨_,_,rfl,rfl,by show (0:Int)<2147483647;decide,?_⟩
      obtain ⟨on,hon,eon⟩:=modn (x:=(x:Int)+65537*((t+1:Nat):Int)) (n:=2147483647) (by decide)
      dsimp only [yan]
      rw [show V.int (((x:Int)+65537*((t+1:Nat):Int))%2147483647)=Vn on from eon]
      refine ⟨_,rfl,_,_,rfl,rfl,⟨by decide,by decide,by show (on:Int).natAbs<2^64;lia⟩,?_⟩
      refine ⟨_,_,rfl,rfl,by show (0:Int)<2147483647;decide,?_⟩
      obtain ⟨o5,ho5,eo5⟩:=modn (x:=(on:Int)^(5:Int).toNat) (n:=2147483647) (by decide)
      refine ⟨_,rfl,_,_,rfl,rfl,.inl ⟨by decide,by decide⟩,?_⟩
      refine ⟨_,_,rfl,rfl,?_⟩
      have b5:(on:Int)^(5:Int).toNat%2147483647=(o5:Int):=V.int.inj eo5
      refine ⟨_,_,rfl,rfl,.inl ⟨by rw [b5];lia,by rw [b5];lia⟩,?_⟩
      refine ⟨_,rfl,_,rfl,a,_,_,_,rfl,rfl,SqL.of h1',rfl,?_⟩
      refine ⟨_,_,rfl,rfl,⟨by show (0:Int)<2147483647;decide,by show (2147483647:Int)<2^64;decide⟩,?_⟩
      refine ⟨_,_,rfl,rfl,?_⟩
      refine ⟨_,rfl,_,_,rfl,rfl,by show (0:Int)<(pr:Int);lia,?_⟩
      refine ⟨_,_,rfl,rfl,⟨by show (0:Int)<61;decide,by show (61:Int)<2^64;decide⟩,?_⟩
      refine ⟨_,rfl,_,_,rfl,rfl,by show (0:Int)<(n:Int);lia,?_⟩
      obtain ⟨r,hr',er⟩:=modn (x:=((on:Int)^(5:Int).toNat%2147483647*(2*((t+1:Nat):Int)+1)+(x:Int)/2147483647)%(pr:Int)/61) hn
      dsimp only
      rw [er]
      exact q r H3 hr' ⟨[],x,t+1,h1',h2'⟩ h3'
    · intro D' hrt _ _ hD
      refine ⟨_,rfl,a,_,_,_,rfl,rfl,SqL.of ha,rfl,szl 0,fun l hl=>?_⟩
      have nla:a≠l:=zac ha hl
      have nlg:g≠l:=zac hg hl
      have hg1:(upd H' l (.lst [])) g=some (.lst (ns.map Vn)):=by rw [zad nlg];exact hg
      have ha1:(upd H' l (.lst [])) a=some (.lst [.ref g,Vn x,Vn t]):=by rw [zad nla];exact ha
      have sm1:yaj a g H (upd H' l (.lst [])):=sm.trans (Same.x (yaa hl _))
      refine ⟨g,l,_,rfl,rfl,SqL.of hg1,SqL.of zaa,_,rfl,?_⟩
      refine ite2 (fun c=>?_) (fun c=>?_)
      · cases ns with
        | nil=>exact absurd c (by simp)
        | cons d ns =>
          refine ⟨_,rfl,a,_,_,_,rfl,rfl,SqL.of ha1,rfl,?_⟩
          refine ⟨g,_,_,_,rfl,rfl,SqL.of hg1,yc0 _ _,?_⟩
          refine ⟨_,rfl,_,_,rfl,rfl,by show (0:Int)<(n:Int);lia,?_⟩
          refine ⟨_,rfl,a,_,_,_,rfl,rfl,SqL.of ha1,rfl,?_⟩
          refine ⟨g,_,_,_,rfl,rfl,SqL.of hg1,yc0 _ _,?_⟩
          refine ⟨_,rfl,_,_,rfl,rfl,⟨by show (0:Int)<(n:Int);lia,by show (n:Int)<2^1000;lia⟩,?_⟩
          refine ⟨_,rfl,a,_,_,_,rfl,rfl,SqL.of ha1,rfl,?_⟩
          refine ⟨g,_,0,0,rfl,rfl,hg1,zej (by simp),?_⟩
          refine ⟨_,rfl,?_⟩
          rw [hrt]
          refine q (d%n) _ (Nat.mod_lt _ hn) ⟨(d/n)::ns,x,t,by rw [zad nag];exact ha1,zaa⟩ fun b o n1 n2 e=>by rw [zad n2];exact sm1 b o n1 n2 e
      · cases ns with
        | nil=>exact hD _ _ ⟨rfl,rfl,ha1,hg1,sm1⟩
        | cons d ns=>exact absurd (by simp) c
  · intro D' _ _ _ hD
    refine ybx (fun σ H'=>σ=[some (.ref a),some (Vn n),none,none,none,none,none]∧Pu H' a g∧yaj a g H H') (fun _ H'=>zcZ H' g) ⟨rfl,hP,yaj.refl⟩ ?_
    rintro σ H' ⟨rfl,⟨ns,x,t,ha,hg⟩,sm⟩
    refine ⟨_,rfl,a,_,_,_,rfl,rfl,SqL.of ha,rfl,szl 0,fun l hl=>?_⟩
    have nla:a≠l:=zac ha hl
    have nlg:g≠l:=zac hg hl
    have hg1:(upd H' l (.lst [])) g=some (.lst (ns.map Vn)):=by rw [zad nlg];exact hg
    have ha1:(upd H' l (.lst [])) a=some (.lst [.ref g,Vn x,Vn t]):=by rw [zad nla];exact ha
    have sm1:yaj a g H (upd H' l (.lst [])):=sm.trans (Same.x (yaa hl _))
    refine ⟨g,l,_,rfl,rfl,SqL.of hg1,SqL.of zaa,_,rfl,?_⟩
    refine ite2 (fun c=>?_) (fun c=>?_)
    · cases ns with
      | nil=>exact absurd c (by simp)
      | cons d ns =>
        refine ⟨_,rfl,a,_,_,_,rfl,rfl,SqL.of ha1,rfl,?_⟩
        refine ⟨g,_,_,_,rfl,rfl,SqL.of hg1,yc0 _ _,?_⟩
        refine ⟨rfl,_,rfl,?_⟩
        refine ite2 (fun c=>?_) (fun c=>?_)
        · refine ⟨fun σ' H''=>σ'=[some (.ref a),some (Vn n),none,none,none,none,none]∧H''=upd (upd H' l (.lst [])) g (.lst (ns.map Vn)),?_,?_⟩
          · rintro σ' H'' ⟨rfl,rfl⟩
            refine ⟨_,?_,rfl,rfl,⟨ns,x,t,by rw [zad nag];exact ha1,zaa⟩,fun b o n1 n2 e=>by rw [zad n2];exact sm1 b o n1 n2 e⟩
            rw [ybC hg,ybC (xs:=ns.map Vn) zaa];simp
          · refine ⟨_,rfl,a,_,_,_,rfl,rfl,SqL.of ha1,rfl,.inl ⟨rfl,_,SqL.of hg1⟩,?_⟩
            exact ⟨g,_,0,0,Vn d,rfl,rfl,hg1,by decide,by decide,(ydQ (zej (by simp))).1,rfl,rfl,rfl⟩
        · exact hD _ _ ⟨rfl,⟨d::ns,x,t,ha1,hg1⟩,sm1⟩
    · refine ite2 (fun c2=>absurd c2 (by decide)) (fun _=>?_)
      exact hD _ _ ⟨rfl,⟨ns,x,t,ha1,hg1⟩,sm1⟩
end
end My
end
section
-- text: P3
set_option Elab.async false
set_option linter.all false
set_option maxRecDepth 100000
set_option maxHeartbeats 4000000
namespace My
open PySem L2 Dg
local macro_rules | `(tactic| walk_at "rd") => `(tactic| repeat (first | refine ⟨_, rfl, ?_⟩ | refine ⟨_, _, rfl, rfl, ?_⟩))
noncomputable def sumN:Nat→(Nat→Nat)→Nat
  | 0,_=>0
  | n+1,g=>sumN n g+g n
theorem zcH:∀(n:Nat) (g:Nat→Nat),sumN (n+1) g=g 0+sumN n fun j=>g (j+1)
  | 0,g=>by simp [sumN]
  | n+1,g=>by rw [sumN,zcH n g,sumN];lia
theorem yeA {n:Nat} {g h:Nat→Nat} (e:∀j,j<n→g j=h j):sumN n g=sumN n h:=by
  induction n with
  | zero=>rfl
  | succ n ih=>rw [sumN,sumN,ih fun j hj=>e j (by lia),e n (by lia)]
noncomputable def shN (j:Nat) (y:Nat→Nat) (i:Nat):Nat:=if j≤i then y (i-j) else 0
theorem ydA:∀(k:Nat) (f y:Nat→Nat) (i:Nat),zda k f y i=sumN k fun j=>f j*shN j y i
  | 0,_,_,_=>rfl
  | k+1,f,y,i=>by
    rw [zcH]
    show f 0*y i+zaD (zda k (fun j=>f (j+1)) y) i=f 0*shN 0 y i+_
    congr 1
    unfold zaD
    by_cases h:i=0
    · rw [if_pos h]
      subst h
      have:∀n,sumN n (fun j=>f (j+1)*shN (j+1) y 0)=0:=fun n=>by
        induction n with
        | zero=>rfl
        | succ n ih=>rw [sumN,ih];unfold shN;rw [if_neg (by lia)];simp
      exact (this k).symm
    · rw [if_neg h,ydA k]
      refine yeA fun j _=>?_
      congr 1
      unfold shN
      by_cases h2:j+1≤i
      · rw [if_pos h2,if_pos (by lia)];congr 1;lia
      · rw [if_neg h2,if_neg (by lia)]
noncomputable def rowL (p n:Nat) (c:Nat→Nat):List V:=(List.range n).map fun i=>Vn (c i%p)
theorem zbx (p n:Nat) (c:Nat→Nat):(rowL p n c).length=n:=by simp [rowL]
theorem zdc {p n:Nat} (c:Nat→Nat) {i:Nat} (h:i<n):(rowL p n c)[i]?=some (Vn (c i%p)):=by
  unfold rowL;rw [List.getElem?_map,List.getElem?_range h];rfl
theorem ydP {p n:Nat} (c:Nat→Nat) {i:Nat} {j:Int} (h:i<n) (e:j=(i:Int)):atI (rowL p n c) j=some (Vn (c i%p)):=by
  subst e;exact zaW (zdc c h)
theorem zba {p n:Nat} {c c':Nat→Nat} (h:∀i,i<n→c i%p=c' i%p):rowL p n c=rowL p n c':=by
  unfold rowL
  refine List.map_congr_left fun i hi=>?_
  rw [h i (List.mem_range.mp hi)]
theorem yfC {p n:Nat} (c:Nat→Nat) {s v:Nat} (h:s<n):(rowL p n c).set s (Vn (v%p))=rowL p n fun i=>if i=s then v else c i:=by
  refine List.ext_getElem? fun i=>?_
  by_cases hi:i<n
  · rw [zdc _ hi,List.getElem?_set]
    by_cases e:s=i
    · subst e;rw [if_pos rfl,if_pos (by rw [zbx];exact hi),if_pos rfl]
    · rw [if_neg e,zdc _ hi,if_neg (Ne.symm e)]
  · rw [List.getElem?_eq_none (by rw [List.length_set,zbx];lia),List.getElem?_eq_none (by rw [zbx];lia)]
theorem ye0 {p n:Nat} {c:Nat→Nat} {s v:Nat} (h:s<n) {c':Nat→Nat} (hc:∀i,i<n→c' i%p=(if i=s then c s%p+v else c i)%p):(rowL p n c).set s (Vn ((c s%p+v)%p))=rowL p n c' :=
  (yfC c h).trans (zba fun i hi=>(hc i hi).symm)
theorem ze2 {n s:Nat} {j:Int} (h:s<n) (e:j=(s:Int)):ixN n j=some s:=by
  subst e
  unfold ixN
  rw [if_pos (by lia),if_pos (by lia)];simp
theorem zfz (p k:Nat) (hp:0<p):(List.replicate k [V.int 0]).flatten=rowL p k fun _=>0:=by
  induction k with
  | zero=>rfl
  | succ k ih =>
    rw [List.replicate_succ',List.flatten_append,ih]
    unfold rowL
    rw [List.range_succ,List.map_append]
    simp
section
variable {P:Program} {w:World} {K:PySem.W.Frag} {mg:Str→Option Value} {base:Heap} {f:Addr} {fd:FuncData}
inductive zbB (K:PySem.W.Frag) (vs:List V) (H:Hp) (Q:VK) (E:XK):Prop
  | mk (a:Addr) (p m t x y:Nat) (c1:vs=[.ref a,.int x,.int y]) (c2:Fld K H a p m t) (c3:2≤p) (c4:1≤m) (c5:p^m≤64) (c6:t<p^m) (c7:x<p^m) (c8:y<p^m) (c9:∀(r:Nat) H',Same H H'→r<p^m→(∀i,i<m→dg p i r=tn m (fun i=>dg p i t) m (fun i=>dg p i x) (fun i=>dg p i y) i%p)→Q (.int r) H'):zbB K vs H Q E
theorem yc3 {p m x i:Nat} (h:i<m):(digL p m x)[i]?=some (Vn (dg p i x)):=by
  unfold digL;rw [List.getElem?_map,List.getElem?_range h];rfl
theorem zeH {l:Addr} {H H':Hp} {o:HO} (h:yaj l l H H'):yaj l l H (upd H' l o):=fun b u n1 n2 e=>by rw [zad n1];exact h b u n1 n2 e
theorem zfh {l p:Addr} {H H':Hp} {o:HO} (h:yaj l l H H') (hp:H' p=none):yaj l l H (upd H' p o):=h.trans (Same.x (yaa hp o))
theorem yc4 {l:Addr} {H H':Hp} (h:yaj l l H H') (hl:H l=none):Same H H':=fun b o e=>h b o (zac e hl) (zac e hl) e
theorem zae:yai ["_law_field_here","_law_one","_law_other","_law_p","_law_m","_law_top","_law_row","_law_j","_law_digit","_law_k","_law_by","_law_place","_law_at"] ["_law_field_here","_law_one","_law_other"] (yac za6):=⟨rfl,rfl,rfl,by decide +kernel,rfl,by decide +kernel,by decide +kernel⟩
theorem zes (B:Bl mg) (h__law_digits:Has P w K mg base 1 "_law_digits" ["_law_field_here","_law_thing"] (zcB K)) (h__law_number:Has P w K mg base 1 "_law_number" ["_law_field_here","_law_digits_here"] (ycv K)) (F:Fun K "_law_product" "_law_product" za6 f fd):FnOk P w K mg base CX0 2 f fd ["_law_field_here","_law_one","_law_other"] (zbB K):=by
  refine F.ok zae (fun vs H Q E h=>?_) (fun cdv A outer s H vs Q E hr h=>?_)
  · obtain ⟨a,p,m,t,x,y,rfl,_⟩:=h;rfl
  obtain ⟨a,p,m,t,x,y,rfl,hF,hp,hm,hpm,ht,hx,hy,q⟩:=h
  have hp2:=p_le hp hm hpm
  have hm6:=m_le hp hpm
  refine ⟨_,(((pv 0)≈((3&&&zae.nd)∩((4&&&zae.nd)∩((5&&&zae.nd)∩yax))))<=<(6<|>zae.nd<|>(zcm|||(@yam _ _ _ _ (yab>=>zab))|||(zaH|||(yaH|||yab|||(pv 4))|||yab)))<=<((@zb3 _ _ _ _ _ _ _ _ rfl (B "enumerate" (by decide)) ((h__law_digits<$>((pv 0)>=>(pv 1)>=>zab))>=>zab) (by rfl))<&>((@zck _ _ _ _ _ _ rfl ((7&&&zae.nd)∩((8&&&zae.nd)∩yax)) (by rfl) (by rfl)),(~~~((@zb3 _ _ _ _ _ _ _ _ rfl (B "enumerate" (by decide)) ((h__law_digits<$>((pv 0)>=>(pv 2)>=>zab))>=>zab) (by rfl))<&>((@zck _ _ _ _ _ _ rfl ((9&&&zae.nd)∩((10&&&zae.nd)∩yax)) (by rfl) (by rfl)),(~~~(@zco _ _ _ _ _ _ (yaB|||(zan|||(zai<<<(pv 6)<<<(zan|||(pv 7)|||(pv 9)))|||(yaH|||(pv 8)|||(pv 10)))|||(pv 3)) (@ycH _ _ _ _ _ _ _ (pv 6) (zan|||(pv 7)|||(pv 9)) zbD (by intro _;rfl)) (by rfl) (by rfl) (by rfl))))))))<=<((@ygL _ _ _ _ _ _ _ _ rfl (B "range" (by decide)) ((zaH|||(yaH|||yab|||(pv 4))|||yab)>=>(zaH|||(pv 4)|||yab)>=>(@zeq _ _ _ _ _ _ ycP yab)>=>zab) (by rfl) (by rfl))<&>((11&&&zae.nd),(~~~((@zb3 _ _ _ _ _ _ _ _ rfl (B "enumerate" (by decide)) ((h__law_digits<$>((pv 0)>=>(pv 5)>=>zab))>=>zab) (by rfl))<&>((@zck _ _ _ _ _ _ rfl ((9&&&zae.nd)∩((8&&&zae.nd)∩yax)) (by rfl) (by rfl)),((12<|>zae.nd<|>(zan|||(zaH|||(pv 11)|||(pv 4))|||(pv 9)))<=<(~~~(@zco _ _ _ _ _ _ (yaB|||(zan|||(zai<<<(pv 6)<<<(pv 12))|||(yaH|||(zai<<<(pv 6)<<<(pv 11))|||(pv 8)))|||(pv 3)) (@ycH _ _ _ _ _ _ _ (pv 6) (pv 12) zbD (by intro _;rfl)) (by rfl) (by rfl) (by rfl)))))))))<=<(~~~((h__law_number<$>((pv 0)>=>(@ybM _ _ _ _ _ _ _ _ _ _ zdF (pv 6) yci (@zcg _ _ _ (pv 4)))>=>zab))⁻¹))),?_⟩
  refine ⟨_,rfl,a,_,rfl,hF,rfl,_,_,rfl,_,_,rfl,_,_,rfl,rfl,?_⟩
  refine ⟨szl 1,fun l0 hl0=>?_⟩
  refine ⟨_,rfl,_,_,rfl,rfl,.inl ⟨by decide,by decide⟩,?_⟩
  refine ⟨_,_,rfl,rfl,?_⟩
  have e21:(2*(m:Int)-1).toNat=2*m-1:=by lia
  refine ⟨l0,_,_,rfl,rfl,zaa,by show -(2^63)≤2*(m:Int)-1;lia,by show 2*(m:Int)-1<2^63;lia,?_,fun l hl=>?_⟩
  · show 1*(2*(m:Int)-1).toNat≤sizeLine
    rw [e21];exact szl _
  dsimp only
  rw [e21,zfz p _ (by lia)]
  have hlH:H l=none:=(yaa hl0 (.lst [.int 0])).free hl
  refine ya7 (fun σ H'=>∃s7 s8 s9 s10 s11 s12,σ=[some (.ref a),some (Vn x),some (Vn y),some (Vn p),some (Vn m),some (Vn t),some (.ref l),s7,s8,s9,s10,s11,s12]∧yaj l l H H'∧H' l=some (.lst (rowL p (2*m-1) (zda m (fun i=>dg p i x) fun i=>dg p i y)))) ?_ ?_
  · rintro σ H' ⟨s7,s8,s9,s10,s11,s12,rfl,sx,hrow⟩
    refine ya7 (fun σ H'=>∃s7 s8 s9 s10 s11 s12,σ=[some (.ref a),some (Vn x),some (Vn y),some (Vn p),some (Vn m),some (Vn t),some (.ref l),s7,s8,s9,s10,s11,s12]∧yaj l l H H'∧∃c:Nat→Nat,H' l=some (.lst (rowL p (2*m-1) c))∧∀i,i<m→c i=tn m (fun i=>dg p i t) m (fun i=>dg p i x) (fun i=>dg p i y) i) ?_ ?_
    · rintro σ H' ⟨s7,s8,s9,s10,s11,s12,rfl,sx,c,hrow,hc⟩
      refine ⟨_,rfl,_,rfl,_,rfl,_,rfl,l,_,rfl,SqL.of hrow,fun l2 hl2=>?_⟩
      have sm2:Same H (upd H' l2 (.lst (cutV (rowL p (2*m-1) c) none (some (m:Int))))):=(yc4 sx hlH).trans (yaa hl2 _)
      refine ⟨a,l2,p,m,t,(List.range m).map fun i=>c i%p,rfl,Same.tup sm2 hF,hp,hp2,?_,fun H3 s3=>?_⟩
      · refine SqL.of ?_
        rw [zaa]
        congr 2
        unfold cutV
        rw [HT.sIx_none,show HT.sIx (rowL p (2*m-1) c).length (rowL p (2*m-1) c).length (some (m:Int))=min m (rowL p (2*m-1) c).length from HT.sIx_nat _ _ m,zbx,List.drop_zero,show min m (2*m-1)-0=m by lia]
        unfold rowL
        rw [←List.map_take,List.take_range,List.map_map,show min m (2*m-1)=m by lia]
        rfl
      · have hds:∀d∈(List.range m).map (fun i=>c i%p),d<p:=fun d hd=>by
          obtain ⟨i,_,rfl⟩:=List.mem_map.mp hd
          exact Nat.mod_lt _ (by lia)
        have hg:∀i,((List.range m).map fun i=>c i%p).getD i 0=if i<m then c i%p else 0:=fun i=>by
          by_cases hi:i<m
          · rw [if_pos hi,List.getD,List.getElem?_map,List.getElem?_range hi];rfl
          · rw [if_neg hi,List.getD,List.getElem?_eq_none (by simpa using hi)];rfl
        refine q _ _ (sm2.trans s3) (zev hp fun i hi=>?_) fun i hi=>?_
        · rw [zeL hp _ hds,hg,if_neg (by lia)]
        · rw [zeL hp _ hds,hg,if_pos hi,hc i hi]
    · intro D' _ _ _ hD
      refine ⟨_,rfl,_,_,rfl,rfl,.inl ⟨by decide,by decide⟩,?_⟩
      refine ⟨_,_,rfl,rfl,?_⟩
      refine ⟨_,rfl,_,_,rfl,rfl,?_⟩
      refine ⟨_,rfl,?_⟩
      refine ⟨2*(m:Int)-2,(m:Int)-1,rfl,⟨by lia,by lia,by lia,by lia⟩,?_⟩
      refine ybm yeF (fun i σ H'=>∃s7 s8 s9 s10 s11 s12,σ=[some (.ref a),some (Vn x),some (Vn y),some (Vn p),some (Vn m),some (Vn t),some (.ref l),s7,s8,s9,s10,s11,s12]∧yaj l l H H'∧∃c:Nat→Nat,H' l=some (.lst (rowL p (2*m-1) c))∧
        redF m (fun i=>dg p i t) (m-1-i) c=redF m (fun i=>dg p i t) (m-1) (zda m (fun i=>dg p i x) fun i=>dg p i y)) ⟨s7,s8,s9,s10,s11,s12,rfl,sx,_,hrow,rfl⟩ (fun _ _ _ _ _=>trivial) ?_ ?_
      · rintro i v σ H' H'' hi ⟨s7,s8,s9,s10,s11,s12,rfl,sx,c,hrow,hred⟩ ⟨rfl,rfl⟩
        obtain ⟨j,hj⟩:∃j,m-1-i=j+1:=⟨m-1-i-1,by lia⟩
        have eq:V.int (2*(m:Int)-2-(i:Int))=Vn (m+j):=by show V.int _=V.int _;congr 1;lia
        have hq:m+j<2*m-1:=by lia
        dsimp only [yan]
        rw [eq]
        refine ⟨_,rfl,_,rfl,a,p,m,t,t,rfl,Same.tup (yc4 sx hlH) hF,hp,hp2,by lia,fun b2 H2 hb2' s2 e2=>?_⟩
        have nb2:b2≠l:=fun e=>by rw [e,hrow] at hb2';cases hb2'
        refine ⟨false,b2,rfl,⟨_,SqL.of e2⟩,?_⟩
        refine ybm (ya9 (K:=K) (b:=false) (l:=b2) (xs:=digL p m t)) (fun k σ H'=>∃s7 s8 s9 s10 s12,σ=[some (.ref a),some (Vn x),some (Vn y),some (Vn p),some (Vn m),some (Vn t),some (.ref l),s7,s8,s9,s10,some (Vn (m+j)),s12]∧yaj l l H H'∧H' b2=some (.lst (digL p m t))∧
          H' l=some (.lst (rowL p (2*m-1) fun i=>c i+if j≤i∧i<j+k then c (m+j)*dg p (i-j) t else 0))) ⟨s7,s8,s9,s10,s12,rfl,sx.trans (Same.x s2),e2,?_⟩ ?_ ?_ ?_
        · rw [s2 _ _ hrow]
          congr 2
          refine zba fun i _=>?_
          rw [if_neg (by lia)];rfl
        · rintro i σ H' _ ⟨s7,s8,s9,s10,s12,rfl,_,h,_⟩;exact SqL.of h
        · rintro k v σ H' H'' hk ⟨s7,s8,s9,s10,s12,rfl,sx,hc,hrow⟩ ⟨T,u,rfl,eu,hT,rfl⟩
          rw [ybc] at hk
          rw [yc3 hk] at eu;cases eu
          refine ⟨T,_,rfl,SqT.of zaa,rfl,_,_,rfl,_,_,rfl,rfl,?_⟩
          have sx3:yaj l l H (upd H' T (.tup [.int k,Vn (dg p k t)])):=zfh sx hT
          have hc3:(upd H' T (.tup [.int k,Vn (dg p k t)])) b2=some (.lst (digL p m t)):=by rw [zad (zac hc hT)];exact hc
          have hr3:=(zad (o:=.tup [.int k,Vn (dg p k t)]) (zac hrow hT)).trans hrow
          generalize upd H' T (.tup [.int k,Vn (dg p k t)])=G at sx3 hc3 hr3 ⊢
          have hjk:j+k<2*m-1:=by lia
          have hmp:∀z,z%p<p:=fun z=>Nat.mod_lt _ (by lia)
          refine ⟨_,rfl,_,rfl,_,_,rfl,rfl,?_⟩
          refine ⟨_,rfl,_,_,rfl,rfl,?_⟩
          have eat:V.int (((m+j:Nat):Int)-(m:Int)+((k:Nat):Int))=Vn (j+k):=by show V.int _=V.int _;congr 1;lia
          dsimp only [yan]
          rw [eat]
          refine ⟨_,rfl,_,rfl,l,_,_,_,rfl,rfl,SqL.of hr3,ydP _ hjk rfl,?_⟩
          refine ⟨_,rfl,_,rfl,l,_,_,_,rfl,rfl,SqL.of hr3,ydP _ hq rfl,?_⟩
          have hmq:=hmp (c (m+j)+if j≤m+j∧m+j<j+k then c (m+j)*dg p (m+j-j) t else 0)
          refine ⟨_,rfl,_,_,rfl,rfl,.inl ⟨by lia,by lia⟩,?_⟩
          refine ⟨_,_,rfl,rfl,?_⟩
          refine ⟨_,rfl,_,_,rfl,rfl,by show (0:Int)<(p:Int);lia,?_⟩
          refine ⟨_,rfl,_,rfl,?_⟩
          refine ⟨l,_,_,j+k,rfl,rfl,hr3,ze2 (by rw [zbx];exact hjk) rfl,?_⟩
          refine ⟨s7,_,_,s10,_,rfl,zeH sx3,by rw [zad nb2];exact hc3,?_⟩
          rw [zaa]
          congr 2
          refine ye0 (v:=(c (m+j)+if j≤m+j∧m+j<j+k then c (m+j)*dg p (m+j-j) t else 0)%p*dg p k t) hjk fun i hi=>?_
          by_cases e:i=j+k
          · subst e
            rw [if_pos rfl,if_pos (by lia),if_neg (by lia),if_neg (by lia),Nat.add_zero,Nat.add_zero,show j+k-j=k by lia,Nat.mod_add_mod]
            exact zcf rfl (zc8 (Nat.mod_mod _ _).symm rfl)
          · rw [if_neg e]
            congr 2
            by_cases h2:j≤i∧i<j+k
            · rw [if_pos h2,if_pos (by lia)]
            · rw [if_neg h2,if_neg (by lia)]
        · rintro σ H' ⟨s7,s8,s9,s10,s12,rfl,sx,hc,hrow⟩
          refine ⟨s7,s8,s9,s10,_,s12,rfl,sx,_,hrow,?_⟩
          rw [←hred,hj,show m-1-(i+1)=j by lia]
          show _=redF m (fun i=>dg p i t) j (ybh m (fun i=>dg p i t) (m+j) c)
          congr 1
          funext z
          unfold ybh
          rw [ybc,show m+j-m=j by lia]
          congr 1
          by_cases h2:j≤z∧z<j+m
          · rw [if_pos h2,if_pos (by lia)]
          · rw [if_neg h2,if_neg (by lia)]
      · rintro σ H' ⟨s7,s8,s9,s10,s11,s12,rfl,sx,c,hrow,hred⟩
        refine hD _ _ ⟨s7,s8,s9,s10,s11,s12,rfl,sx,c,hrow,fun i hi=>?_⟩
        rw [show m-1-(2*(m:Int)-2-((m:Int)-1)).toNat=0 by lia] at hred
        have e:=congrFun hred i
        have e2:=zd8 (t:=fun i=>dg p i t) hm (m-1) (fun i=>dg p i x) (fun i=>dg p i y) (fun z hz=>yaM hp hy hz) i hi
        rw [show m-1+1=m by lia] at e2
        exact e.trans e2
  · intro D' _ _ _ hD
    refine ⟨_,rfl,_,rfl,a,p,m,t,x,rfl,Same.tup ((yaa hl0 _).trans (yaa hl _)) hF,hp,hp2,by lia,fun b1 H1 hb1 s1 e1=>?_⟩
    have hl1:H1 l=some (.lst (rowL p (2*m-1) fun _=>0)):=s1 _ _ zaa
    have nb1:b1≠l:=fun e=>by rw [e,zaa] at hb1;cases hb1
    have sx1:yaj l l H H1:=Same.x (((yaa hl0 _).trans (yaa hl _)).trans s1)
    refine ⟨false,b1,rfl,⟨_,SqL.of e1⟩,?_⟩
    refine ybm (ya9 (K:=K) (b:=false) (l:=b1) (xs:=digL p m x)) (fun j σ H'=>∃s7 s8 s9 s10 s11 s12,σ=[some (.ref a),some (Vn x),some (Vn y),some (Vn p),some (Vn m),some (Vn t),some (.ref l),s7,s8,s9,s10,s11,s12]∧yaj l l H H'∧H' b1=some (.lst (digL p m x))∧
      H' l=some (.lst (rowL p (2*m-1) fun i=>sumN j fun j'=>dg p j' x*shN j' (fun i=>dg p i y) i))) ⟨none,none,none,none,none,none,rfl,sx1,e1,hl1⟩ ?_ ?_ ?_
    · rintro i σ H' _ ⟨s7,s8,s9,s10,s11,s12,rfl,_,h,_⟩;exact SqL.of h
    · rintro j v σ H' H'' hj ⟨s7,s8,s9,s10,s11,s12,rfl,sx,hb,hrow⟩ ⟨T,u,rfl,eu,hT,rfl⟩
      rw [ybc] at hj
      rw [yc3 hj] at eu;cases eu
      refine ⟨T,_,rfl,SqT.of zaa,rfl,_,_,rfl,_,_,rfl,rfl,?_⟩
      have sx2:yaj l l H (upd H' T (.tup [.int j,Vn (dg p j x)])):=zfh sx hT
      have hb2:(upd H' T (.tup [.int j,Vn (dg p j x)])) b1=some (.lst (digL p m x)):=by rw [zad (zac hb hT)];exact hb
      have hr2:(upd H' T (.tup [.int j,Vn (dg p j x)])) l=some (.lst (rowL p (2*m-1) fun i=>sumN j fun j'=>dg p j' x*shN j' (fun i=>dg p i y) i)):=by rw [zad (zac hrow hT)];exact hrow
      generalize upd H' T (.tup [.int j,Vn (dg p j x)])=G at sx2 hb2 hr2 ⊢
      refine ⟨_,rfl,_,rfl,a,p,m,t,y,rfl,Same.tup (yc4 sx2 hlH) hF,hp,hp2,by lia,fun b2 H2 hb2' s2 e2=>?_⟩
      have nb2:b2≠l:=fun e=>by rw [e,hr2] at hb2';cases hb2'
      refine ⟨false,b2,rfl,⟨_,SqL.of e2⟩,?_⟩
      refine ybm (ya9 (K:=K) (b:=false) (l:=b2) (xs:=digL p m y)) (fun k σ H'=>∃s9 s10 s11 s12,σ=[some (.ref a),some (Vn x),some (Vn y),some (Vn p),some (Vn m),some (Vn t),some (.ref l),some (Vn j),some (Vn (dg p j x)),s9,s10,s11,s12]∧yaj l l H H'∧H' b1=some (.lst (digL p m x))∧H' b2=some (.lst (digL p m y))∧
        H' l=some (.lst (rowL p (2*m-1) fun i=>sumN j (fun j'=>dg p j' x*shN j' (fun i=>dg p i y) i)+if j≤i∧i<j+k then dg p j x*dg p (i-j) y else 0))) ⟨s9,s10,s11,s12,rfl,sx2.trans (Same.x s2),s2 _ _ hb2,e2,?_⟩ ?_ ?_ ?_
      · rw [s2 _ _ hr2]
        congr 2
        refine zba fun i _=>?_
        rw [if_neg (by lia)];rfl
      · rintro i σ H' _ ⟨s9,s10,s11,s12,rfl,_,_,h,_⟩;exact SqL.of h
      · rintro k v σ H' H'' hk ⟨s9,s10,s11,s12,rfl,sx,hb,hc,hrow⟩ ⟨T,u,rfl,eu,hT,rfl⟩
        rw [ybc] at hk
        rw [yc3 hk] at eu;cases eu
        refine ⟨T,_,rfl,SqT.of zaa,rfl,_,_,rfl,_,_,rfl,rfl,?_⟩
        have sx3:yaj l l H (upd H' T (.tup [.int k,Vn (dg p k y)])):=zfh sx hT
        have hb3:(upd H' T (.tup [.int k,Vn (dg p k y)])) b1=some (.lst (digL p m x)):=by rw [zad (zac hb hT)];exact hb
        have hc3:(upd H' T (.tup [.int k,Vn (dg p k y)])) b2=some (.lst (digL p m y)):=by rw [zad (zac hc hT)];exact hc
        have hr3:=(zad (o:=.tup [.int k,Vn (dg p k y)]) (zac hrow hT)).trans hrow
        generalize upd H' T (.tup [.int k,Vn (dg p k y)])=G at sx3 hb3 hc3 hr3 ⊢
        have d1:=zhl hp j x
        have hjk:j+k<2*m-1:=by lia
        refine ⟨_,rfl,_,rfl,_,rfl,_,_,rfl,rfl,?_⟩
        refine ⟨l,_,_,_,rfl,rfl,SqL.of hr3,ydP _ hjk rfl,?_⟩
        refine ⟨_,rfl,_,rfl,_,_,rfl,rfl,.inl ⟨by show -(2^64:Int)<((dg p j x:Nat):Int);lia,by show ((dg p j x:Nat):Int)<2^64;lia⟩,?_⟩
        refine ⟨_,_,rfl,rfl,?_⟩
        refine ⟨_,rfl,_,_,rfl,rfl,by show (0:Int)<(p:Int);lia,?_⟩
        refine ⟨_,rfl,_,rfl,_,rfl,_,_,rfl,rfl,?_⟩
        refine ⟨l,_,_,j+k,rfl,rfl,hr3,ze2 (by rw [zbx];exact hjk) rfl,?_⟩
        refine ⟨_,_,s11,s12,rfl,zeH sx3,by rw [zad nb1];exact hb3,by rw [zad nb2];exact hc3,?_⟩
        rw [zaa]
        congr 2
        refine ye0 (v:=dg p j x*dg p k y) hjk fun i hi=>?_
        by_cases e:i=j+k
        · subst e
          rw [if_pos rfl,if_pos (by lia),if_neg (by lia),Nat.add_zero,show j+k-j=k by lia,Nat.mod_add_mod]
        · rw [if_neg e]
          congr 2
          by_cases h2:j≤i∧i<j+k
          · rw [if_pos h2,if_pos (by lia)]
          · rw [if_neg h2,if_neg (by lia)]
      · rintro σ H' ⟨s9,s10,s11,s12,rfl,sx,hb,hc,hrow⟩
        refine ⟨_,_,s9,s10,s11,s12,rfl,sx,hb,?_⟩
        rw [hrow,ybc]
        congr 2
        refine zba fun i _=>?_
        rw [sumN]
        congr 2
        unfold shN
        by_cases h1:j≤i
        · rw [if_pos h1]
          by_cases h2:i<j+m
          · rw [if_pos ⟨h1,h2⟩]
          · rw [if_neg (by lia)];show 0=dg p j x*dg p (i-j) y;rw [yaM hp hy (by lia),Nat.mul_zero]
        · rw [if_neg h1,if_neg (by lia),Nat.mul_zero]
    · rintro σ H' ⟨s7,s8,s9,s10,s11,s12,rfl,sx,hb,hrow⟩
      refine hD _ _ ⟨s7,s8,s9,s10,s11,s12,rfl,sx,?_⟩
      rw [hrow,ybc]
      congr 2
      exact zba fun i _=>by rw [ydA]
end
end My
end
section
-- text: P4
set_option Elab.async false
set_option linter.all false
set_option maxRecDepth 100000
set_option maxHeartbeats 4000000
namespace My
open PySem L2 Dg
section
variable {P:Program} {w:World} {K:PySem.W.Frag} {mg:Str→Option Value} {base:Heap} {f:Addr} {fd:FuncData}
theorem zhv {b:Bool} (h:¬ (!b)=true):b=true:=by cases b <;> simp_all
inductive zdT (K:PySem.W.Frag) (vs:List V) (H:Hp) (Q:VK) (E:XK):Prop
  | mk (a:Addr) (p m t:Nat) (c1:vs=[.ref a]) (c2:Fld K H a p m t) (c3:2≤p) (c4:1≤m) (c5:p^m≤64) (c6:t<p^m) (c7:∀(b:Bool) H',Same H H'→(b=true→∀x y,0<x→x<p^m→x<p^(m/2+1)→0<y→y<p^m→mul p m t x y≠0)→Q (.bl b) H'):zdT K vs H Q E
theorem zar:yai ["_law_field_here","_law_p","_law_m","_law_top","_law_many","_law_one"] ["_law_field_here"] (yac zaK):=⟨rfl,rfl,rfl,by decide +kernel,rfl,by decide +kernel,by decide +kernel⟩
theorem ygi (B:Bl mg) (h__law_raised:Has P w K mg base 1 "_law_raised" ["_law_one","_law_many"] yah) (h__law_product:Has P w K mg base 2 "_law_product" ["_law_field_here","_law_one","_law_other"] (zbB K)) (F:Fun K "_law_is_good" "_law_is_good" zaK f fd):FnOk P w K mg base CX0 3 f fd ["_law_field_here"] (zdT K):=by
  refine F.ok zar (fun vs H Q E h=>?_) (fun cdv A outer s H vs Q E hr h=>?_)
  · obtain ⟨a,p,m,t,rfl,_⟩:=h;rfl
  obtain ⟨a,p,m,t,rfl,hF,hp,hm,hpm,ht,q⟩:=h
  have hp2:=p_le hp hm hpm
  have hm6:=m_le hp hpm
  have hpos:0<p^m:=Nat.pow_pos (by lia)
  refine ⟨_,(((pv 0)≈((1&&&zar.nd)∩((2&&&zar.nd)∩((3&&&zar.nd)∩yax))))<=<(4<|>zar.nd<|>(h__law_raised<$>((pv 1)>=>(pv 2)>=>zab)))<=<((@zbN _ _ _ _ _ _ _ rfl (B "range" (by decide)) (yab>=>((yeI rfl)>>>("min",zdY,((pv 4)>=>(h__law_raised<$>((pv 1)>=>(zan|||(zcF|||(pv 2)|||yab)|||yab)>=>zab))>=>zab)))>=>zab) (by rfl) (by rfl))<&>((5&&&zar.nd),(~~~((@yg2 _ _ _ _ (@zf3 _ _ _ ((yf1 rfl)>>>("all",PyProof.Rows.boot_all,((["_law_other"]⊆(["_law_field_here","_law_one"],[0,5],["_law_field_here","_law_p","_law_m","_law_top","_law_many","_law_one"],zaK,(@zbN _ _ _ _ _ _ _ rfl (B "range" (by decide)) (yab>=>(pv 4)>=>zab) (by rfl) (by rfl)),(0⊇["_law_other","_law_field_here","_law_one"]),yaw,(@zcR _ _ _ _ _ _ _ _ zdP (h__law_product<$>((pv 1)>=>(pv 2)>=>(pv 0)>=>zab)) yab (yds _))))>=>zab))) (by intro _;rfl)))*>((~~~(zey⁻¹)),zaC)))))<=<(~~~(zey⁻¹))),?_⟩
  refine ⟨_,rfl,a,_,rfl,hF,rfl,_,_,rfl,_,_,rfl,_,_,rfl,rfl,?_⟩
  refine ⟨_,rfl,_,rfl,p,m,rfl,hp2,by lia,?_⟩
  refine ⟨_,rfl,_,rfl,_,rfl,_,_,rfl,rfl,⟨by show (0:Int)<2;decide,by show (2:Int)<2^64;decide⟩,?_⟩
  refine ⟨_,_,rfl,rfl,?_⟩
  refine ⟨p,m/2+1,rfl,hp2,by lia,?_⟩
  refine ⟨_,_,rfl,?_⟩
  generalize hj:(if (((p^(m/2+1):Nat):Int)<((p^m:Nat):Int)) then ((p^(m/2+1):Nat):Int) else ((p^m:Nat):Int))=j
  have hj2:0≤j∧j≤((p^m:Nat):Int)∧∀x:Nat,x<p^m→x<p^(m/2+1)→(x:Int)<j:=by
    rw [←hj];split
    · exact ⟨by lia,by lia,fun x h1 h2=>by lia⟩
    · exact ⟨by lia,by lia,fun x h1 h2=>by lia⟩
  refine ⟨1,j,rfl,⟨by lia,by lia,by lia,by lia⟩,?_⟩
  refine yaz (fun i σ H'=>Same H H'∧(∀x y,0<x→x<1+i→0<y→y<p^m→mul p m t x y≠0)∧∃s,σ=[some (.ref a),some (Vn p),some (Vn m),some (Vn t),some (Vn (p^m)),s]) ⟨Same.refl _,fun x y h1 h2=>by lia,none,rfl⟩ ?_ ?_
  · rintro i σ H' hi ⟨sm,hno,s,rfl⟩
    refine ⟨_,rfl,1,((p^m:Nat):Int),rfl,⟨by lia,by lia,by lia,by lia⟩,?_⟩
    refine yak ybA (fun k acc H1=>Same H H1∧acc=((List.range k).map fun j=>decide (0<mul p m t (1+i) (1+j))).map V.bl) ⟨sm,rfl⟩ (fun _ _ _ _ _=>trivial) ?_ ?_ ?_
    · rintro k acc H1 hk ⟨_,rfl⟩
      rw [List.length_map,List.length_map,List.length_range];exact Nat.lt_of_le_of_lt (show k≤1000 by lia) (zaf (Nat.le_refl _))
    · rintro k acc x H1 H2 hk ⟨sm1,rfl⟩ ⟨rfl,rfl⟩
      refine ⟨_,rfl,_,rfl,_,rfl,a,p,m,t,1+i,1+k,rfl,Same.tup sm1 hF,hp,hm,hpm,ht,by lia,by lia,fun r H3 s3 br hr=>?_⟩
      have e:=zf8 hp hm br hr
      subst e
      refine ⟨_,_,rfl,rfl,sm1.trans s3,?_⟩
      rw [List.range_succ,List.map_append,List.map_append]
      refine congrArg (_++[V.bl ·]) ?_
      show decide ((0:Int)<((mul p m t (1+i) (1+k):Nat):Int))=decide (0<mul p m t (1+i) (1+k))
      exact decide_eq_decide.mpr (by lia)
    · rintro acc H1 ⟨sm1,rfl⟩ D hD
      refine ⟨D,_,rfl,SqL.of zaa,_,rfl,?_⟩
      refine ite2 (fun c=>?_) (fun c=>?_)
      · exact q _ _ (sm1.trans (yaa hD _)) (fun h=>by cases h)
      · refine ⟨sm1.trans (yaa hD _),fun x y h1 h2 h3 h4=>?_,_,rfl⟩
        by_cases hx:x<1+i
        · exact hno x y h1 hx h3 h4
        · have c2:((List.range (((p^m:Nat):Int)-1).toNat).map fun j=>decide (0<mul p m t (1+i) (1+j))).all id=true:=zhv c
          rw [List.all_eq_true] at c2
          have c3:=c2 (decide (0<mul p m t (1+i) (1+(y-1)))) (List.mem_map.mpr ⟨y-1,List.mem_range.mpr (by lia),rfl⟩)
          have c4:0<mul p m t (1+i) (1+(y-1)):=of_decide_eq_true c3
          rw [show 1+i=x by lia,show 1+(y-1)=y by lia] at c4
          lia
  · rintro σ H' ⟨sm,hno,s,rfl⟩
    refine q _ _ sm fun _ x y h1 h2 h3 h4 h5=>hno x y h1 ?_ h4 h5
    have:=hj2.2.2 x h2 h3
    lia
end
end My
end
section
-- text: P5
set_option Elab.async false
set_option linter.all false
set_option maxRecDepth 100000
set_option maxHeartbeats 4000000
namespace My
open PySem L2 Dg
theorem zfJ {p m:Nat} (h:(p,m)∈Dg.menu):(p,1)∈Dg.menu:=(by decide +kernel:∀c∈Dg.menu,(c.1,1)∈Dg.menu) (p,m) h
noncomputable def ye9:List (Int×Int)→TA
  | []=>tNil
  | (p,m)::r=>ycC (tTup (ycC (tC (.int p)) (ycC (tC (.int m)) tNil))) (ye9 r)
@[irreducible] noncomputable def zc5 (ps:List (Int×Int)):TA:=ye9 ps
theorem yc1 (ps:List (Int×Int)):zc5 ps=ye9 ps:=by unfold zc5;rfl
theorem ydx:zc5 []=tNil:=by rw [yc1];rfl
theorem zcE {p m:Int} {r:List (Int×Int)}:zc5 ((p,m)::r)=ycC (tTup (ycC (tC (.int p)) (ycC (tC (.int m)) tNil))) (zc5 r):=by rw [yc1,yc1];rfl
section
variable {X:Cx}
theorem ych:PA X [] (zc5 []):=by rw [ydx];exact zab
theorem yae {p m:Int} {k1 k2 c:Nat} {p1 p2 p3:Pos} {es:List Expr} {r:List (Int×Int)} (h:PA X es (zc5 r)):PA X (.Tuple [.Constant (.int p) k1 p1,.Constant (.int m) k2 p2] c p3::es) (zc5 ((p,m)::r)):=by
  rw [zcE]
  exact zc2 (ybb (zc2 yab (zc2 yab zab))) h
end
noncomputable def ycL (H:Hp) (t:Addr):Prop:=∃p m:Nat,H t=some (.tup [Vn p,Vn m])∧(p,m)∈Dg.menu
theorem ycL.same {H H':Hp} {t:Addr} (h:ycL H t) (s:∀o,H t=some o→H' t=some o):ycL H' t:=by
  obtain ⟨p,m,e,q⟩:=h;exact ⟨p,m,s _ e,q⟩
theorem zcy:∀(ps:List (Int×Int)) (σ:St) (H:Hp) (Q:List V→Hp→Prop),(∀x∈ps,∃p m:Nat,x=((p:Int),(m:Int))∧(p,m)∈Dg.menu)→
    (∀(ts:List Addr) H',Same H H'→ts.length=ps.length→(∀t∈ts,H t=none∧ycL H' t)→Q (ts.map V.ref) H')→zc5 ps σ H Q
  | [],σ,H,Q,_,q=>by rw [ydx];exact q [] H (Same.refl _) rfl (fun t ht=>nomatch ht)
  | (p,m)::r,σ,H,Q,hp,q=>by
    rw [zcE]
    refine ⟨szl 2,fun t ht=>?_⟩
    obtain ⟨p',m',e,b⟩:=hp (p,m) List.mem_cons_self
    cases e
    refine zcy r σ _ _ (fun x hx=>hp x (List.mem_cons_of_mem _ hx)) fun ts H' s hl hts=>?_
    refine q (t::ts) H' ((yaa ht _).trans s) (by simp [hl]) fun t' ht'=>?_
    rcases List.mem_cons.mp ht' with e|e
    · subst e;exact ⟨ht,p',m',s _ _ zaa,b⟩
    · exact ⟨(yaa ht _).free (hts t' e).1,(hts t' e).2⟩
structure Menu (a g:Addr) (H:Hp) (l:Addr) (n:Nat):Prop where
  ex:∃ts:List Addr,H l=some (.lst (ts.map V.ref))∧ts.length=n∧∀t∈ts,t≠a∧t≠g∧ycL H t
  na:l≠a
  ng:l≠g
theorem Menu.x {a g l:Addr} {n:Nat} {H H':Hp} (h:Menu a g H l n) (s:yaj a g H H'):Menu a g H' l n:=by
  obtain ⟨⟨ts,h1,h2,h3⟩,na,ng⟩:=h
  exact ⟨⟨ts,s _ _ na ng h1,h2,fun t ht=>⟨(h3 t ht).1,(h3 t ht).2.1,(h3 t ht).2.2.same fun o e=>s _ _ (h3 t ht).1 (h3 t ht).2.1 e⟩⟩,na,ng⟩
section
variable {P:Program} {w:World} {K:PySem.W.Frag} {mg:Str→Option Value} {base:Heap} {f:Addr} {fd:FuncData}
noncomputable def ybO:List Nat:=[17,19,23,29,31,37,41,43,47,53,59]
inductive zcS (vs:List V) (H:Hp) (Q:VK) (E:XK):Prop
  | mk (a g:Addr) (c1:vs=[.ref a]) (c2:Pu H a g) (c3:∀(r:Addr) (p m t:Nat) H',r≠a→r≠g→H r=none→H' r=some (.tup [Vn p,Vn m,Vn t])→Good p m t→Pu H' a g→yaj a g H H'→Q (.ref r) H'):zcS vs H Q E
theorem zaj:yai ["_law_purse_here","_law_some","_law_size","_law_p","_law_m","_law_many","_law_start","_law_turn","_law_field_here"] ["_law_purse_here"] (yac za1):=⟨rfl,rfl,rfl,by decide +kernel,rfl,by decide +kernel,by decide +kernel⟩
theorem Pu.lt {H:Hp} {a g l:Addr} (h:Pu H a g) (hl:H l=none):l≠a∧l≠g:=by
  obtain ⟨ns,s,t,h1,h2⟩:=h
  exact ⟨Ne.symm (zac h1 hl),Ne.symm (zac h2 hl)⟩
theorem yfD (B:Bl mg) (h__law_pick:Has P w K mg base 1 "_law_pick" ["_law_purse_here","_law_many"] ybX) (h__law_raised:Has P w K mg base 1 "_law_raised" ["_law_one","_law_many"] yah) (h__law_is_good:Has P w K mg base 3 "_law_is_good" ["_law_field_here"] (zdT K)) (F:Fun K "_law_field" "_law_field" za1 f fd):FnOk P w K mg base CX0 4 f fd ["_law_purse_here"] zcS:=by
  refine F.ok zaj (fun vs H Q E h=>?_) (fun cdv A outer s H vs Q E hr h=>?_)
  · obtain ⟨a,g,rfl,_⟩:=h;rfl
  obtain ⟨a,g,rfl,hP,q⟩:=h
  refine ⟨_,((1<|>zaj.nd<|>(@yam _ _ _ _ (@yae _ _ _ _ _ _ _ _ _ _ _ (@yae _ _ _ _ _ _ _ _ _ _ _ (@yae _ _ _ _ _ _ _ _ _ _ _ (@yae _ _ _ _ _ _ _ _ _ _ _ (@yae _ _ _ _ _ _ _ _ _ _ _ (@yae _ _ _ _ _ _ _ _ _ _ _ (@yae _ _ _ _ _ _ _ _ _ _ _ (@yae _ _ _ _ _ _ _ _ _ _ _ (@yae _ _ _ _ _ _ _ _ _ _ _ (@yae _ _ _ _ _ _ _ _ _ _ _ (@yae _ _ _ _ _ _ _ _ _ _ _ (@yae _ _ _ _ _ _ _ _ _ _ _ ych))))))))))))))<=<(2<|>zaj.nd<|>(h__law_pick<$>((pv 0)>=>yab>=>zab)))<=<((ybJ∪(pv 2)∪yab)*>((~~~(1<|>zaj.nd<|>(@yam _ _ _ _ (@yae _ _ _ _ _ _ _ _ _ _ _ (@yae _ _ _ _ _ _ _ _ _ _ _ (@yae _ _ _ _ _ _ _ _ _ _ _ (@yae _ _ _ _ _ _ _ _ _ _ _ ych))))))),zaC))<=<((ybJ∪(pv 2)∪yab)*>((~~~(@za7 _ 1 _ _ _ _ _ _ _ _ _ ["_law_p"] [] [] _ _ _ _ zaj.nd rfl (Or.inl rfl) (id (α:=CSc ["_law_purse_here","_law_some","_law_size","_law_p","_law_m","_law_many","_law_start","_law_turn","_law_field_here"] (yac za1) ["_law_p"] [] [] _) ⟨by rfl,by decide +kernel,by decide +kernel,by decide +kernel,by decide +kernel,by rfl,by decide +kernel⟩) rfl (@zaI _ _ _ _ (@yam _ _ _ _ (yab>=>yab>=>yab>=>yab>=>yab>=>yab>=>yab>=>yab>=>yab>=>yab>=>yab>=>zab))) (fun cl C fp s H=>(0⊇["_law_p"])) (fun _ _ _ _ _=>yaw) (fun _ _ _ _ _=>(@ybb _ _ _ _ _ ((pv 0)>=>yab>=>zab))) (by rfl) (by intro _;rfl) (by first|exact .inl rfl|exact .inr rfl|assumption))),zaC))<=<((zai<<<(pv 1)<<<(h__law_pick<$>((pv 0)>=>(yal>>>("len",PySem.boot_len,((pv 1)>=>zab)))>=>zab)))≈((3&&&zaj.nd)∩((4&&&zaj.nd)∩yax)))<=<(5<|>zaj.nd<|>(h__law_raised<$>((pv 3)>=>(pv 4)>=>zab)))<=<(6<|>zaj.nd<|>(h__law_pick<$>((pv 0)>=>(pv 5)>=>zab)))<=<((↑((pv 5)>=>zab))<&>((7&&&zaj.nd),((8<|>zaj.nd<|>(@ybb _ _ _ _ _ ((pv 3)>=>(pv 4)>=>(yaB|||(zan|||(pv 6)|||(pv 7))|||(pv 5))>=>zab)))<=<(~~~((@PW.pt _ _ _ (@zgB _ _ _ _ _ _ _ (ybJ∪(pv 4)∪yab) (@zfq _ _ _ _ (@zf3 _ _ _ (h__law_is_good<$>((pv 8)>=>zab)) (by intro _;rfl)))))*>((~~~((pv 8)⁻¹)),zaC))))))<=<(~~~((@ybb _ _ _ _ _ ((pv 3)>=>yab>=>yab>=>zab))⁻¹))),?_⟩
  refine zcy [(2,1),(2,2),(2,3),(2,4),(3,1),(3,2),(3,3),(5,1),(5,2),(7,1),(11,1),(13,1)] _ H _ ?_ fun ts H0 s0 hts hpair=>?_
  · intro x hx
    simp only [List.mem_cons,List.not_mem_nil,or_false] at hx
    rcases hx with rfl|rfl|rfl|rfl|rfl|rfl|rfl|rfl|rfl|rfl|rfl|rfl
    · exact ⟨2,1,rfl,by decide +kernel⟩
    · exact ⟨2,2,rfl,by decide +kernel⟩
    · exact ⟨2,3,rfl,by decide +kernel⟩
    · exact ⟨2,4,rfl,by decide +kernel⟩
    · exact ⟨3,1,rfl,by decide +kernel⟩
    · exact ⟨3,2,rfl,by decide +kernel⟩
    · exact ⟨3,3,rfl,by decide +kernel⟩
    · exact ⟨5,1,rfl,by decide +kernel⟩
    · exact ⟨5,2,rfl,by decide +kernel⟩
    · exact ⟨7,1,rfl,by decide +kernel⟩
    · exact ⟨11,1,rfl,by decide +kernel⟩
    · exact ⟨13,1,rfl,by decide +kernel⟩
  refine ⟨by rw [List.length_map,hts];exact szl 12,fun l hl=>?_⟩
  have hP0:Pu (upd H0 l (.lst (ts.map V.ref))) a g:=hP.same (s0.trans (yaa hl _))
  have sx0:yaj a g H (upd H0 l (.lst (ts.map V.ref))):=Same.x (s0.trans (yaa hl _))
  have M0:Menu a g (upd H0 l (.lst (ts.map V.ref))) l 12:=by
    have n1:=(hP.same s0).lt hl
    refine ⟨⟨ts,zaa,hts,fun t ht=>?_⟩,n1.1,n1.2⟩
    have n2:=hP.lt (hpair t ht).1
    exact ⟨n2.1,n2.2,(hpair t ht).2.same fun o e=>(yaa hl _) _ _ e⟩
  generalize upd H0 l (.lst (ts.map V.ref))=G at hP0 sx0 M0 ⊢
  refine ⟨_,rfl,a,g,8,rfl,hP0,by lia,by lia,fun sz H1 hsz hP1 sx1=>?_⟩
  have sxA:=sx0.trans sx1
  have M1:=M0.x sx1
  dsimp only [yan]
  refine ya7 (fun σ H'=>∃l n,0<n∧n≤12∧Menu a g H' l n∧Pu H' a g∧yaj a g H H'∧σ=[some (.ref a),some (.ref l),some (Vn sz),none,none,none,none,none,none]) ?_ ?_
  · rintro σ H2 ⟨l,n,hn,hn2,M2,hP2,sx2,rfl⟩
    refine ya7 (fun σ H'=>∃l n,0<n∧n≤12∧Menu a g H' l n∧Pu H' a g∧yaj a g H H'∧σ=[some (.ref a),some (.ref l),some (Vn sz),none,none,none,none,none,none]) ?_ ?_
    · rintro σ H3 ⟨l,n,hn,hn2,M3,hP3,sx3,rfl⟩
      obtain ⟨ts3,e3,l3,p3⟩:=M3.ex
      refine ⟨_,rfl,_,rfl,_,rfl,l,_,rfl,.inl (SqL.of e3),?_⟩
      refine ⟨a,g,n,by rw [List.length_map,l3];rfl,hP3,hn,by lia,fun i H4 hi hP4 sx4=>?_⟩
      obtain ⟨ts4,e4,l4,p4⟩:=(M3.x sx4).ex
      have hi4:i<ts4.length:=by lia
      refine ⟨l,_,_,.ref (ts4[i]),rfl,rfl,SqL.of e4,zaW (by rw [List.getElem?_map,List.getElem?_eq_getElem hi4];rfl),?_⟩
      obtain ⟨_,_,p,m,ep,hmem⟩:=p4 ts4[i] (List.getElem_mem hi4)
      obtain ⟨hp,hm,hpm⟩:=za9 hmem
      have hp2:=p_le hp hm hpm
      have hm6:=m_le hp hpm
      have hpos:0<p^m:=Nat.pow_pos (by lia)
      refine ⟨ts4[i],_,rfl,SqT.of ep,rfl,_,_,rfl,_,_,rfl,rfl,?_⟩
      refine ⟨_,rfl,_,rfl,p,m,rfl,hp2,by lia,?_⟩
      refine ⟨_,rfl,_,rfl,a,g,p^m,rfl,hP4,hpos,by lia,fun st H5 hst hP5 sx5=>?_⟩
      have sxE:=sx3.trans (sx4.trans sx5)
      refine ⟨_,rfl,((p^m:Nat):Int),rfl,by lia,by lia,?_⟩
      refine yaz (n:=p^m) (fun i σ H'=>Pu H' a g∧yaj a g H H'∧∃s7 s8,σ=[some (.ref a),some (.ref l),some (Vn sz),some (Vn p),some (Vn m),some (Vn (p^m)),some (Vn st),s7,s8]) ⟨hP5,sxE,none,none,rfl⟩ ?_ ?_
      · rintro j σ H6 hj ⟨hP6,sx6,s7,s8,rfl⟩
        refine ⟨_,rfl,_,rfl,_,rfl,_,rfl,_,_,rfl,rfl,?_⟩
        refine ⟨_,rfl,_,_,rfl,rfl,by show (0:Int)<((p^m:Nat):Int);lia,?_⟩
        refine ⟨szl 3,fun r hr=>?_⟩
        have nr:=hP6.lt hr
        have hr0:H r=none:=by
          cases e:H r with
          | none=>rfl
          | some o=>rw [sx6 r o nr.1 nr.2 e] at hr;cases hr
        have et:V.int ((((st:Nat):Int)+(0+(j:Int)))%((p^m:Nat):Int))=Vn ((st+j)%p^m):=by show V.int _=V.int _;congr 1;rw [Int.zero_add];rfl
        have hlt:(st+j)%p^m<p^m:=Nat.mod_lt _ hpos
        have hP7:Pu (upd H6 r (.tup [Vn p,Vn m,Vn ((st+j)%p^m)])) a g:=hP6.same (yaa hr _)
        have sx7:yaj a g H (upd H6 r (.tup [Vn p,Vn m,Vn ((st+j)%p^m)])):=sx6.trans (Same.x (yaa hr _))
        dsimp only [yan]
        rw [et]
        refine ⟨_,rfl,rfl,_,rfl,?_⟩
        refine ite2 (fun c=>?_) (fun c=>?_)
        · refine ite2 (fun _=>?_) (fun c=>absurd rfl c)
          have hm1:m=1:=by
            have:=of_decide_eq_true c
            injection this with this
            lia
          exact ⟨_,rfl,q r p m _ _ nr.1 nr.2 hr0 zaa ⟨hmem,hlt,.inl hm1⟩ hP7 sx7⟩
        · refine ⟨_,rfl,r,p,m,(st+j)%p^m,rfl,SqT.of zaa,hp,hm,hpm,hlt,fun b H8 s8' hb=>?_⟩
          refine ⟨_,rfl,?_⟩
          refine ite2 (fun c2=>?_) (fun _=>?_)
          · exact ⟨_,rfl,q r p m _ _ nr.1 nr.2 hr0 (s8' _ _ zaa) ⟨hmem,hlt,.inr (hb c2)⟩ (hP7.same s8') (sx7.trans (Same.x s8'))⟩
          · exact ⟨hP7.same s8',sx7.trans (Same.x s8'),_,_,rfl⟩
      · rintro σ H6 ⟨hP6,sx6,s7,s8,rfl⟩
        refine ⟨_,rfl,szl 3,fun r hr=>?_⟩
        have nr:=hP6.lt hr
        have hr0:H r=none:=by
          cases e:H r with
          | none=>rfl
          | some o=>rw [sx6 r o nr.1 nr.2 e] at hr;cases hr
        exact q r p 1 0 _ nr.1 nr.2 hr0 zaa ⟨zfJ hmem,by simp;lia,.inl rfl⟩ (hP6.same (yaa hr _)) (sx6.trans (Same.x (yaa hr _)))
    · intro D' _ _ _ hD
      refine ⟨_,rfl,rfl,_,rfl,?_⟩
      refine ite2 (fun c=>?_) (fun c=>hD _ _ ⟨l,n,hn,hn2,M2,hP2,sx2,rfl⟩)
      refine ⟨szl 11,fun l2 hl2=>?_⟩
      refine ⟨l2,rfl,⟨_,SqL.of zaa⟩,?_⟩
      refine yak (yaD (xs:=ybO.map Vn)) (fun k acc H'=>Same (upd H2 l2 (.lst (ybO.map Vn))) H'∧∃ts:List Addr,ts.length=k∧acc=ts.map V.ref∧∀t∈ts,t≠a∧t≠g∧ycL H' t)
        ⟨Same.refl _,[],rfl,rfl,fun t ht=>nomatch ht⟩ (fun i acc H' _ h=>SqL.of (h.1 _ _ zaa)) ?_ ?_ ?_
      · rintro k acc H' hk ⟨_,ts,e,rfl,_⟩
        have hk':k<11:=hk
        rw [List.length_map,e];exact zaf (by lia)
      · rintro k acc x H3 H4 hk ⟨s3,ts,e,rfl,hts⟩ ⟨rfl,hx⟩
        obtain ⟨pr,hpr,rfl⟩:∃pr,pr∈ybO∧x=Vn pr:=by
          rw [List.getElem?_map] at hx
          cases e:ybO[k]? with
          | none=>rw [e] at hx;cases hx
          | some pr=>rw [e] at hx;cases hx;exact ⟨pr,List.mem_of_getElem? e,rfl⟩
        have hb:(pr,1)∈Dg.menu:=(by decide +kernel:∀x∈ybO,(x,1)∈Dg.menu) pr hpr
        refine ⟨_,rfl,szl 2,fun t ht=>?_⟩
        have hP3:Pu H4 a g:=hP2.same ((yaa hl2 _).trans s3)
        have nt:=hP3.lt ht
        refine ⟨s3.trans (yaa ht _),ts++[t],by simp [e],by simp,fun t' ht'=>?_⟩
        rcases List.mem_append.mp ht' with h|h
        · exact ⟨(hts t' h).1,(hts t' h).2.1,(hts t' h).2.2.same fun o e=>(yaa ht _) _ _ e⟩
        · cases List.mem_singleton.mp h
          exact ⟨nt.1,nt.2,pr,1,zaa,hb⟩
      · rintro acc H3 ⟨s3,ts,e,rfl,hts⟩ D hD3
        have sA:Same H2 H3:=(yaa hl2 _).trans s3
        have hP3:Pu H3 a g:=hP2.same sA
        have nD:=hP3.lt hD3
        refine hD _ _ ⟨D,11,by lia,by lia,⟨⟨ts,zaa,e,fun t ht=>?_⟩,nD.1,nD.2⟩,hP3.same (yaa hD3 _),sx2.trans (Same.x (sA.trans (yaa hD3 _))),rfl⟩
        exact ⟨(hts t ht).1,(hts t ht).2.1,(hts t ht).2.2.same fun o e=>(yaa hD3 _) _ _ e⟩
  · intro D' _ _ _ hD
    refine ⟨_,rfl,rfl,_,rfl,?_⟩
    refine ite2 (fun c=>?_) (fun c=>hD _ _ ⟨l,12,by lia,by lia,M1,hP1,sxA,rfl⟩)
    refine zcy [(2,5),(2,6),(7,2),(61,1)] _ H1 _ ?_ fun ts2 H2 s2 hts2 hpair2=>?_
    · intro x hx
      simp only [List.mem_cons,List.not_mem_nil,or_false] at hx
      rcases hx with rfl|rfl|rfl|rfl
      · exact ⟨2,5,rfl,by decide +kernel⟩
      · exact ⟨2,6,rfl,by decide +kernel⟩
      · exact ⟨7,2,rfl,by decide +kernel⟩
      · exact ⟨61,1,rfl,by decide +kernel⟩
    refine ⟨by rw [List.length_map,hts2];exact szl 4,fun l2 hl2=>?_⟩
    refine hD _ _ ⟨l2,4,by lia,by lia,?_,hP1.same (s2.trans (yaa hl2 _)),sxA.trans (Same.x (s2.trans (yaa hl2 _))),rfl⟩
    have n1:=(hP1.same s2).lt hl2
    refine ⟨⟨ts2,zaa,hts2,fun t ht=>?_⟩,n1.1,n1.2⟩
    have n2:=hP1.lt (hpair2 t ht).1
    exact ⟨n2.1,n2.2,(hpair2 t ht).2.same fun o e=>(yaa hl2 _) _ _ e⟩
end
end My
end
section
-- text: P8
set_option Elab.async false
set_option linter.all false
set_option maxRecDepth 100000
set_option maxHeartbeats 4000000
namespace My
open PySem L2 Dg
theorem zdB:bootBuiltins "dict"=some (.type "dict"):=by decide +kernel
noncomputable def Pws (p m t b:Nat):List Nat:=(List.range (p^m-1)).map (pw p m t b)
noncomputable def Logs (p m t b:Nat):List (Key×V):=(List.range (p^m-1)).map fun i=>(Sum.inl ((pw p m t b i:Nat):Int),Vn i)
noncomputable def tabD (fa pa la:Addr) (p m:Nat):List (Key×V):=[(.inr "field",.ref fa),(.inr "p",Vn p),(.inr "m",Vn m),(.inr "many",Vn (p^m)),(.inr "powers",.ref pa),(.inr "logs",.ref la)]
structure Tab (H:Hp) (tb fa pa la:Addr) (p m t b:Nat):Prop where
  d:H tb=some (.dK (tabD fa pa la p m))
  f:H fa=some (.tup [Vn p,Vn m,Vn t])
  w:H pa=some (.lst ((Pws p m t b).map Vn))
  l:H la=some (.dK (Logs p m t b))
  good:Good p m t
  prim:Prim p m t b
theorem Tab.same {H H':Hp} {tb fa pa la:Addr} {p m t b:Nat} (T:Tab H tb fa pa la p m t b) (s:Same H H'):Tab H' tb fa pa la p m t b :=
  ⟨s _ _ T.d,s _ _ T.f,s _ _ T.w,s _ _ T.l,T.good,T.prim⟩
theorem yaV {α:Type} {f:Nat→α} (n:Nat) (h:∀i j,i<n→j<n→f i=f j→i=j):((List.range n).map f).Nodup:=by
  rw [List.Nodup,List.pairwise_iff_getElem]
  intro i j hi hj hij
  simp only [List.length_map,List.length_range] at hi hj
  simp only [List.getElem_map,List.getElem_range]
  intro e
  have:=h i j hi hj e
  lia
theorem yeo {f:Nat→Key} {g:Nat→V}:∀(l:List Nat) (n:Nat),l=List.range n→(∀i j,i<n→j<n→f i=f j→i=j)→∀i,i<n→valV (l.map fun i=>(f i,g i)) (f i)=some (g i):=by
  intro l n hl h i hi
  subst hl
  unfold valV
  rw [List.find?_map]
  have e:(List.range n).find? ((fun kv:Key×V=>decide (kv.1=f i)) ∘ fun i=>(f i,g i))=some i:=by
    rw [List.find?_range_eq_some]
    refine ⟨by simp,by simpa using hi,fun j hj=>?_⟩
    simp only [Function.comp,Bool.not_eq_true',decide_eq_false_iff_not]
    intro e
    have:=h j i (by lia) hi e
    lia
  rw [e];rfl
theorem yem (fa pa la:Addr) (p m:Nat):zcG [] (tabD fa pa la p m)=tabD fa pa la p m:=rfl
theorem zcX (p m t b:Nat):(Pws p m t b).length=p^m-1:=by simp [Pws]
section
variable {P:Program} {w:World} {K:PySem.W.Frag} {mg:Str→Option Value} {base:Heap} {f:Addr} {fd:FuncData}
inductive zc1 (vs:List V) (H:Hp) (Q:VK) (E:XK):Prop
  | mk (fa:Addr) (p m t:Nat) (c1:vs=[.ref fa]) (c2:H fa=some (.tup [Vn p,Vn m,Vn t])) (c3:Good p m t) (c4:∀tb pa la b H',H tb=none→H pa=none→H la=none→Tab H' tb fa pa la p m t b→Same H H'→Q (.ref tb) H'):zc1 vs H Q E
theorem yaA:yai ["_law_field_here","_law_many","_law_powers","_law_base","_law_thing","_law_logs"] ["_law_field_here"] (yac za0):=⟨rfl,rfl,rfl,by decide +kernel,rfl,by decide +kernel,by decide +kernel⟩
theorem yfI (B:Bl mg) (h__law_raised:Has P w K mg base 1 "_law_raised" ["_law_one","_law_many"] yah) (h__law_product:Has P w K mg base 2 "_law_product" ["_law_field_here","_law_one","_law_other"] (zbB K)) (F:Fun K "_law_table" "_law_table" za0 f fd):FnOk P w K mg base CX0 3 f fd ["_law_field_here"] zc1:=by
  refine F.ok yaA (fun vs H Q E h=>?_) (fun cdv A outer s H vs Q E hr h=>?_)
  · obtain ⟨fa,p,m,t,rfl,_⟩:=h;rfl
  obtain ⟨fa,p,m,t,rfl,hf,G,q⟩:=h
  obtain ⟨b,Pb⟩:=G.prim
  have hp:=G.hp
  have hm:=G.hm
  have hpm:=G.hq
  have ht:=G.top
  have hp2:=p_le hp hm hpm
  have hm6:=m_le hp hpm
  have hQ2:=zas hp hm
  have hbp:=Pb.pos
  have hbl:=Pb.lt
  refine ⟨_,((1<|>yaA.nd<|>(h__law_raised<$>((yas<<<(pv 0)<<<yab)>=>(yas<<<(pv 0)<<<yab)>=>zab)))<=<(@zbP _ _ 2 3 _ _ _ _ _ _ _ _ _ _ _ rfl yaA.nd rfl rfl (by decide) rfl rfl ((@yam _ _ _ _ zab)>=>yab>=>zab) rfl (by rfl))<=<(@zbz _ _ _ _ _ _ PassesOwn.never (ygC∪(yal>>>("len",PySem.boot_len,((pv 2)>=>zab)))∪(zaH|||(pv 1)|||yab)) ((@zdR _ _ 3 2 4 _ _ _ _ _ _ _ _ _ _ _ _ _ _ rfl yaA.nd rfl rfl rfl (by decide) rfl rfl rfl ((zan|||(pv 3)|||yab)>=>(@yam _ _ _ _ (yab>=>zab))>=>(zan|||(pv 3)|||yab)>=>zab) rfl (by rfl))<=<(~~~(@zbz _ _ _ _ _ _ PassesOwn.never (yeG∪(pv 4)∪yab) ((@zbW _ _ _ _ (@zet _ _ _ _ _ _ _ _ _ _ _ _ PySem.F.plainAttrs_list PySem.F.slot_list_append PySem.F.type_list_append ybP (pv 2) ((pv 4)>=>zab) (by rfl) (by rfl) (by rfl) (by rfl) (by rfl)) (by rfl))<=<(~~~(4<|>yaA.nd<|>(h__law_product<$>((pv 0)>=>(pv 4)>=>(pv 3)>=>zab)))))))))<=<(5<|>yaA.nd<|>((zcp rfl)<*("dict",zdB,((["_law_at","_law_thing"]⊆([],[],["_law_field_here","_law_many","_law_powers","_law_base","_law_thing","_law_logs"],za0,(@zb3 _ _ _ _ _ _ _ _ rfl (B "enumerate" (by decide)) ((pv 2)>=>zab) (by rfl)),(@zbY _ _ _ _ 2 _ K rfl rfl ((0⊇["_law_at","_law_thing"])∩((1⊇["_law_at","_law_thing"])∩yax)) (by rfl) (by rfl)),yaw,(@ybb _ _ _ _ _ ((pv 1)>=>(pv 0)>=>zab))))>=>zab))))<=<(~~~((@zgD _ _ _ _ _ (@ybv _ _ _ _ _ _ _ _ _ zax (pv 0) (@ybv _ _ _ _ _ _ _ _ _ zax (yas<<<(pv 0)<<<yab) (@ybv _ _ _ _ _ _ _ _ _ zax (yas<<<(pv 0)<<<yab) (@ybv _ _ _ _ _ _ _ _ _ zax (pv 1) (@ybv _ _ _ _ _ _ _ _ _ zax (pv 2) (@ybv _ _ _ _ _ _ _ _ _ zax (pv 5) ygJ)))))) rfl rfl (fun h=>nomatch h) (by decide))⁻¹))),?_⟩
  refine ⟨_,rfl,fa,_,_,_,rfl,rfl,SqT.of hf,rfl,?_⟩
  refine ⟨_,rfl,fa,_,_,_,rfl,rfl,SqT.of hf,rfl,?_⟩
  refine ⟨p,m,rfl,hp2,by lia,?_⟩
  refine ⟨szl 0,fun l0 hl0=>⟨_,_,rfl,?_⟩⟩
  dsimp only []
  refine ya7 (fun σ H'=>Same H H'∧∃pa s4,H pa=none∧H' pa=some (.lst ((Pws p m t b).map Vn))∧σ=[some (.ref fa),some (Vn (p^m)),some (.ref pa),some (Vn b),s4,none]) ?_ ?_
  · rintro σ H1 ⟨s1,pa,s4,npa,epa,rfl⟩
    refine ⟨_,rfl,false,pa,rfl,⟨_,SqL.of epa⟩,?_⟩
    refine yak (ya9 (b:=false) (xs:=(Pws p m t b).map Vn)) (fun k acc H'=>Same H1 H'∧∃ts:List Addr,ts.length=k∧acc=ts.map V.ref∧∀j a,ts[j]?=some a→H' a=some (.tup [Vn (pw p m t b j),Vn j])) ⟨Same.refl _,[],rfl,rfl,fun j a e=>by simp at e⟩ (fun i acc H' _ h=>SqL.of (h.1 _ _ epa)) ?_ ?_ ?_
    · rintro k acc H' hk ⟨_,ts,e,rfl,_⟩
      rw [List.length_map,zcX] at hk
      rw [List.length_map,e];exact zaf (by lia)
    · rintro k acc x H2 H3 hk ⟨s2,ts,e,rfl,hts⟩ ⟨T,u,rfl,eu,hT,rfl⟩
      rw [List.length_map,zcX] at hk
      have eu2:u=Vn (pw p m t b k):=by
        unfold Pws at eu
        rw [List.getElem?_map,List.getElem?_map,List.getElem?_range hk] at eu
        exact (Option.some.inj eu).symm
      subst eu2
      refine ⟨T,_,rfl,SqT.of zaa,rfl,_,_,rfl,_,_,rfl,rfl,?_⟩
      refine ⟨_,rfl,_,rfl,szl 2,fun a ha=>?_⟩
      have sA:=(yaa hT (.tup [.int (k:Int),Vn (pw p m t b k)])).trans (yaa ha (.tup [Vn (pw p m t b k),Vn k]))
      refine ⟨s2.trans sA,ts++[a],by simp [e],by simp,fun j a' ej=>?_⟩
      rw [List.getElem?_append] at ej
      split at ej
      · exact sA _ _ (hts j a' ej)
      · rename_i h
        have hj:j=k:=by
          have:=(List.getElem?_eq_some_iff.mp ej).1
          simp at this;lia
        subst hj
        simp [e] at ej
        subst ej
        exact zaa
    · rintro acc H2 ⟨s2,ts,e,rfl,hts⟩ D hD
      rw [List.length_map,zcX] at e
      have sB:=yaa hD (.lst (ts.map V.ref))
      refine ⟨D,ts,Logs p m t b,rfl,zaa,by rw [e];simp [Logs],by simp only [Logs,List.length_map,List.length_range];exact szl _ (by lia),fun j a kv ej ek=>?_,?_,fun la hla=>?_⟩
      · have hj:j<p^m-1:=by have:=(List.getElem?_eq_some_iff.mp ej).1;lia
        unfold Logs at ek
        rw [List.getElem?_map,List.getElem?_range hj] at ek
        cases ek
        exact sB _ _ (hts j a ej)
      · unfold Logs
        rw [List.map_map]
        refine yaV _ fun i j hi hj e=>G.inj Pb i j hi hj ?_
        have e:Sum.inl ((pw p m t b i:Nat):Int)=(Sum.inl ((pw p m t b j:Nat):Int):Key):=e
        injection e with e
        lia
      · intro tb htb
        have s3:Same H1 (upd (upd H2 D (.lst (ts.map V.ref))) la (.dK (Logs p m t b))):=(s2.trans sB).trans (yaa hla _)
        have s4:=s3.trans (yaa htb (.dK []))
        have s5:=s1.trans s4
        refine ⟨_,rfl,_,rfl,fa,_,_,_,rfl,rfl,SqT.of (s5 _ _ hf),rfl,?_⟩
        refine ⟨_,rfl,fa,_,_,_,rfl,rfl,SqT.of (s5 _ _ hf),rfl,?_⟩
        refine ⟨_,rfl,_,rfl,_,rfl,zaa,tabD fa pa la p m,rfl,by show 6≤15;decide,?_⟩
        rw [zd4,yem]
        have s6:=s3.trans (yaa htb (.dK (tabD fa pa la p m)))
        have s7:=s1.trans s6
        have old:∀a,H1 a=none→H a=none:=fun a ha=>by
          cases e:H a with
          | none=>rfl
          | some o=>rw [s1 _ _ e] at ha;cases ha
        have old2:∀a,upd H2 D (.lst (ts.map V.ref)) a=none→H a=none:=fun a ha=>by
          cases e:H a with
          | none=>rfl
          | some o=>rw [(s2.trans sB) _ _ (s1 _ _ e)] at ha;cases ha
        refine q tb pa la b _ ?_ npa (old2 la hla) ⟨zaa,s7 _ _ hf,s6 _ _ epa,(yaa htb _) _ _ zaa,G,Pb⟩ s7
        cases e:H tb with
        | none=>rfl
        | some o=>rw [s3 _ _ (s1 _ _ e)] at htb;cases htb
  · intro D' _ _ _ hD
    refine ybx (fun σ H'=>Same H H'∧∃base pa s4,H pa=none∧σ=[some (.ref fa),some (Vn (p^m)),some (.ref pa),some (Vn base),s4,none]∧∃L:List Nat,H' pa=some (.lst (L.map Vn))∧((base=b∧L=Pws p m t b)∨(base<b∧L.length<p^m-1)))
      (fun σ _=>b-mI σ 3) ⟨yaa hl0 _,0,l0,none,hl0,rfl,[],zaa,.inr ⟨hbp,by show 0<p^m-1;lia⟩⟩ ?_
    rintro σ H1 ⟨s1,bs,pa,s4,npa,rfl,L,ePa,hL⟩
    refine ⟨_,rfl,pa,_,rfl,.inl (SqL.of ePa),?_⟩
    refine ⟨_,rfl,_,_,rfl,rfl,_,_,rfl,rfl,_,rfl,?_⟩
    rw [List.length_map]
    refine ite2 (fun c=>?_) (fun c=>?_)
    · have c':L.length<p^m-1:=by have:=of_decide_eq_true c;lia
      have hlt:bs<b:=by
        rcases hL with ⟨rfl,rfl⟩|h
        · rw [zcX] at c';lia
        · exact h.1
      refine ⟨fun σ' H'=>Same H H'∧∃pa s4,H pa=none∧σ'=[some (.ref fa),some (Vn (p^m)),some (.ref pa),some (Vn (bs+1)),s4,none]∧∃L:List Nat,H' pa=some (.lst (L.map Vn))∧((bs+1=b∧L=Pws p m t b)∨(bs+1<b∧L.length<p^m-1)),?_,?_⟩
      · rintro σ' H' ⟨s2,pa2,s5,n2,rfl,L2,e2,h2⟩
        refine ⟨_,?_,rfl,s2,bs+1,pa2,s5,n2,rfl,L2,e2,h2⟩
        show b-(bs+1)<b-bs;lia
      refine ⟨_,rfl,_,_,rfl,rfl,?_⟩
      refine ⟨szl 1,fun l1 hl1=>?_⟩
      refine ⟨_,rfl,_,_,rfl,rfl,_,_,_,rfl,?_⟩
      have n1:H l1=none:=by
        cases e:H l1 with
        | none=>rfl
        | some o=>rw [s1 _ _ e] at hl1;cases hl1
      have hb1:bs+1<p^m:=by lia
      have nfa:fa≠l1:=zac hf n1
      refine ybx (fun σ H'=>yaj l1 l1 H1 H'∧∃k,1≤k∧k≤p^m-1∧σ=[some (.ref fa),some (Vn (p^m)),some (.ref l1),some (Vn (bs+1)),some (Vn (pw p m t (bs+1) k)),none]∧H' l1=some (.lst (((List.range k).map (pw p m t (bs+1))).map Vn))∧∀i,0<i→i<k→pw p m t (bs+1) i≠1)
        (fun _ H'=>p^m-zcZ H' l1) ⟨Same.x (yaa hl1 _),1,by lia,by lia,?_,zaa,fun i h1 h2=>by lia⟩ ?_
      · rw [yb5 hp hm hb1];rfl
      rintro σ H2 ⟨sx2,k,hk1,hk2,rfl,e2,hne⟩
      have hlen:zcZ H2 l1=k:=by rw [ybC e2];simp
      refine ⟨_,rfl,rfl,_,rfl,?_⟩
      refine ite2 (fun c=>?_) (fun c=>?_)
      · have hk:pw p m t (bs+1) k≠1:=by
          intro e
          rw [e] at c
          exact absurd c (by decide)
        have hk3:k<p^m-1:=by
          rcases Nat.lt_or_ge k (p^m-1) with h|h
          · exact h
          · have:k=p^m-1:=by lia
            rw [this] at hk
            exact absurd (G.fermat (by lia) hb1) hk
        have hf2:H2 fa=some (.tup [Vn p,Vn m,Vn t]):=sx2 _ _ nfa nfa (s1 _ _ hf)
        have e3:((List.range k).map (pw p m t (bs+1))).map Vn++[Vn (pw p m t (bs+1) k)]=((List.range (k+1)).map (pw p m t (bs+1))).map Vn:=by
          rw [List.range_succ,List.map_append,List.map_append];rfl
        refine ⟨fun σ' H'=>yaj l1 l1 H1 H'∧σ'=[some (.ref fa),some (Vn (p^m)),some (.ref l1),some (Vn (bs+1)),some (Vn (pw p m t (bs+1) (k+1))),none]∧H' l1=some (.lst (((List.range (k+1)).map (pw p m t (bs+1))).map Vn)),?_,?_⟩
        · rintro σ' H' ⟨a1,rfl,a3⟩
          have hl2:zcZ H' l1=k+1:=by rw [ybC a3];simp
          refine ⟨_,?_,rfl,a1,k+1,by lia,by lia,rfl,a3,fun i h1 h2=>?_⟩
          · show p^m-zcZ H' l1<p^m-zcZ H2 l1;rw [hl2,hlen];lia
          · rcases Nat.lt_or_ge i k with h|h
            · exact hne i h1 h
            · rw [show i=k by lia];exact hk
        refine ⟨_,rfl,.inl ⟨rfl,_,SqL.of e2⟩,_,rfl,?_⟩
        refine ⟨l1,_,_,rfl,rfl,e2,by simp only [List.length_map,List.length_range];exact zaf (by lia),?_⟩
        rw [e3]
        have s3:yaj l1 l1 H1 (upd H2 l1 (.lst (((List.range (k+1)).map (pw p m t (bs+1))).map Vn))):=zeH sx2
        refine ⟨_,rfl,_,rfl,_,rfl,fa,p,m,t,pw p m t (bs+1) k,bs+1,rfl,SqT.of (by rw [zad nfa];exact hf2),hp,hm,hpm,ht,zaA hp hm _ _,hb1,fun r H4 s4' br hr=>?_⟩
        have e:=zf8 hp hm br hr
        subst e
        exact ⟨s3.trans (Same.x s4'),rfl,s4' _ _ zaa⟩
      · have hk:pw p m t (bs+1) k=1:=by
          rcases Nat.decEq (pw p m t (bs+1) k) 1 with h|h
          · exfalso
            refine c ?_
            rw [decide_eq_false];rfl
            intro e;injection e with e;exact h (by lia)
          · exact h
        refine ⟨(s1.trans (yc4 (sx2) hl1)),l1,_,n1,rfl,_,e2,?_⟩
        rcases Nat.lt_or_ge (bs+1) b with h|h
        · refine .inr ⟨h,?_⟩
          obtain ⟨i,i0,i1,ie⟩:=Pb.low (bs+1) (by lia) h
          simp only [List.length_map,List.length_range]
          rcases Nat.lt_or_ge i k with h3|h3
          · exact absurd ie (hne i i0 h3)
          · lia
        · have hbb:bs+1=b:=by lia
          refine .inl ⟨hbb,?_⟩
          rw [hbb] at hk ⊢
          have:k=p^m-1:=by
            rcases Nat.lt_or_ge k (p^m-1) with h3|h3
            · exact absurd hk (Pb.min k (by lia) h3)
            · lia
          rw [this];rfl
    · have c':¬ L.length<p^m-1:=by
        intro h;exact c (decide_eq_true (by lia))
      rcases hL with ⟨rfl,rfl⟩|h
      · exact hD _ _ ⟨s1,pa,s4,npa,ePa,rfl⟩
      · exact absurd h.2 c'
theorem zdU {fa pa la:Addr} {p m:Nat}:valV (tabD fa pa la p m) (.inr "p")=some (Vn p):=rfl
theorem zgY {fa pa la:Addr} {p m:Nat}:valV (tabD fa pa la p m) (.inr "m")=some (Vn m):=rfl
theorem zce {fa pa la:Addr} {p m:Nat}:valV (tabD fa pa la p m) (.inr "many")=some (Vn (p^m)):=rfl
theorem ycI {fa pa la:Addr} {p m:Nat}:valV (tabD fa pa la p m) (.inr "powers")=some (.ref pa):=rfl
theorem zc0 {fa pa la:Addr} {p m:Nat}:valV (tabD fa pa la p m) (.inr "logs")=some (.ref la):=rfl
theorem zfu {fa pa la:Addr} {p m:Nat}:valV (tabD fa pa la p m) (.inr "field")=some (.ref fa):=rfl
theorem Tab.get {H:Hp} {tb fa pa la:Addr} {p m t b:Nat} (T:Tab H tb fa pa la p m t b) {x:Str} {v:V} (h:valV (tabD fa pa la p m) (.inr x)=some v):DGet H tb (.str x) (some v):=by
  rw [←h];exact DGet.k (k:=.inr x) T.d
theorem Tab.log {H:Hp} {tb fa pa la:Addr} {p m t b:Nat} (T:Tab H tb fa pa la p m t b) {i:Nat} (h:i<p^m-1):DGet H la (Vn (pw p m t b i)) (some (Vn i)):=by
  have e:valV (Logs p m t b) (.inl ((pw p m t b i:Nat):Int))=some (Vn i):=by
    unfold Logs
    refine yeo _ _ rfl (fun i j hi hj e=>T.good.inj T.prim i j hi hj ?_) i h
    injection e with e
    lia
  rw [←e];exact DGet.k (k:=.inl ((pw p m t b i:Nat):Int)) T.l
theorem zg9 (x y i:Nat):dg 2 i (x ^^^ y)=(dg 2 i x+dg 2 i y)%2:=by
  have e:∀z,dg 2 i z=(z.testBit i).toNat:=fun z=>by unfold dg;rw [Nat.toNat_testBit]
  rw [e,e,e,Nat.testBit_xor]
  cases x.testBit i <;> cases y.testBit i <;> rfl
theorem zgG:∀x:Nat,x<64→∀y:Nat,y<64→Builtin.bitXor (x:Int) (y:Int)=((x ^^^ y:Nat):Int):=by decide +kernel
theorem zc4 (x:Nat):decide (Vn x=V.int 0)=decide (x=0):=decide_eq_decide.mpr ⟨fun e=>by injection e with e;lia,fun e=>by rw [e];rfl⟩
inductive ycb (vs:List V) (H:Hp) (Q:VK) (E:XK):Prop
  | mk (tb fa pa la:Addr) (p m t b x y:Nat) (c1:vs=[.ref tb,Vn x,Vn y]) (c2:Tab H tb fa pa la p m t b) (c3:x<p^m) (c4:y<p^m) (c5:Q (Vn (add p m x y)) H):ycb vs H Q E
theorem yaZ:yai ["_law_table_here","_law_one","_law_other","_law_p","_law_found","_law_place"] ["_law_table_here","_law_one","_law_other"] (yac zbH):=⟨rfl,rfl,rfl,by decide +kernel,rfl,by decide +kernel,by decide +kernel⟩
theorem yf0 (B:Bl mg) (F:Fun K "_law_plus" "_law_plus" zbH f fd):FnOk P w K mg base CX0 1 f fd ["_law_table_here","_law_one","_law_other"] ycb:=by
  refine F.ok yaZ (fun vs H Q E h=>?_) (fun cdv A outer s H vs Q E hr h=>?_)
  · obtain ⟨tb,fa,pa,la,p,m,t,b,x,y,rfl,_⟩:=h;rfl
  obtain ⟨tb,fa,pa,la,p,m,t,b,x,y,rfl,T,hx,hy,q⟩:=h
  have hp:=T.good.hp
  have hm:=T.good.hm
  refine ⟨_,((@zdR _ _ 3 4 5 _ _ _ _ _ _ _ _ _ _ _ _ _ _ rfl yaZ.nd rfl rfl rfl (by decide) rfl rfl rfl (((pv 0)⊃zax)>=>yab>=>yab>=>zab) rfl (by rfl))<=<((ybJ∪(pv 3)∪yab)*>((~~~((yg9|||(pv 1)|||(pv 2))⁻¹)),zaC))<=<(@zbz _ _ _ _ _ _ PassesOwn.never (zdP∪(zan|||(pv 1)|||(pv 2))∪yab) ((4<|>yaZ.nd<|>(zan|||(pv 4)|||(yaH|||(yaB|||(zan|||(pv 1)|||(pv 2))|||(pv 3))|||(pv 5))))<=<(~~~(@zdR _ _ 1 2 5 _ _ _ _ _ _ _ _ _ _ _ _ _ _ rfl yaZ.nd rfl rfl rfl (by decide) rfl rfl rfl ((zcF|||(pv 1)|||(pv 3))>=>(zcF|||(pv 2)|||(pv 3))>=>(yaH|||(pv 5)|||(pv 3))>=>zab) rfl (by rfl)))))<=<(~~~((pv 4)⁻¹))),?_⟩
  refine ⟨_,rfl,tb,_,rfl,T.get zdU,_,_,_,rfl,?_⟩
  refine ⟨_,rfl,rfl,_,rfl,?_⟩
  refine ite2 (fun c=>?_) (fun c=>?_)
  · have hp2:p=2:=by
      have e:=of_decide_eq_true c
      injection e with e
      lia
    subst hp2
    refine ⟨_,rfl,_,rfl,_,_,rfl,rfl,?_⟩
    have e:V.int (Builtin.bitXor (x:Int) (y:Int))=Vn (add 2 m x y):=by
      show V.int _=V.int _
      congr 1
      rw [zgG x (by have:=T.good.hq;lia) y (by have:=T.good.hq;lia)]
      congr 1
      exact yga hp hm hx hy fun i=>zg9 x y i
    show Q (V.int (Builtin.bitXor (x:Int) (y:Int))) _
    rw [e]
    exact q
  · refine ybx (fun σ H'=>H'=H∧∃(k o u tt:Nat),σ=[some (.ref tb),some (Vn o),some (Vn u),some (Vn p),some (Vn tt),some (Vn (p^k))]∧o=x/p^k∧u=y/p^k∧tt<p^k∧∀i,i<k→dg p i tt=(dg p i x+dg p i y)%p)
      (fun σ _=>mI σ 1+mI σ 2) ⟨rfl,0,x,y,0,rfl,by simp,by simp,by simp,fun i hi=>absurd hi (Nat.not_lt_zero _)⟩ ?_
    rintro σ H' ⟨rfl,k,o,u,tt,rfl,ho,hu,ht,hd⟩
    have hp64:=p_le hp hm T.good.hq
    have pk:0<p^k:=Nat.pow_pos (by lia)
    refine ⟨_,rfl,_,rfl,_,_,rfl,rfl,_,_,rfl,rfl,_,rfl,?_⟩
    refine ite2 (fun c=>?_) (fun c=>?_)
    · have c':0<o+u:=by have:=of_decide_eq_true c;lia
      refine ⟨fun σ' H''=>H''=H'∧σ'=[some (.ref tb),some (Vn (o/p)),some (Vn (u/p)),some (Vn p),some (Vn (tt+(o+u)%p*p^k)),some (Vn (p^k*p))],?_,?_⟩
      · rintro σ' H'' ⟨rfl,rfl⟩
        have l1:o/p≤o:=Nat.div_le_self _ _
        have l2:u/p≤u:=Nat.div_le_self _ _
        have l3:o/p<o∨u/p<u:=by
          rcases Nat.eq_zero_or_pos o with h|h
          · exact .inr (Nat.div_lt_self (by lia) (by lia))
          · exact .inl (Nat.div_lt_self h (by lia))
        refine ⟨_,?_,rfl,rfl,k+1,o/p,u/p,tt+(o+u)%p*p^k,rfl,?_,?_,?_,fun i hi=>?_⟩
        · show o/p+u/p<o+u;lia
        · rw [ho,Nat.pow_succ,Nat.div_div_eq_div_mul]
        · rw [hu,Nat.pow_succ,Nat.div_div_eq_div_mul]
        · exact yhb ht (Nat.mod_lt _ (by lia))
        · rw [zgP hp ht (Nat.mod_lt _ (by lia))]
          by_cases e:i=k
          · rw [if_pos e,ho,hu,e];unfold dg;rw [Nat.add_mod]
          · rw [if_neg e];exact hd i (by lia)
      · refine ⟨_,rfl,_,rfl,_,rfl,_,_,rfl,rfl,_,rfl,_,_,rfl,rfl,?_⟩
        refine ⟨by show (0:Int)<p;lia,_,rfl,_,_,rfl,rfl,?_⟩
        have hmm:(o+u)%p<p:=Nat.mod_lt _ (by lia)
        refine ⟨.inl ⟨by show -(2^64:Int)<(((o+u)%p:Nat):Int);lia,by show (((o+u)%p:Nat):Int)<2^64;lia⟩,_,_,rfl,rfl,?_⟩
        refine ⟨_,rfl,_,rfl,_,_,rfl,rfl,⟨by show (0:Int)<p;lia,by show (p:Int)<2^64;lia⟩,?_⟩
        refine ⟨_,rfl,_,rfl,_,_,rfl,rfl,⟨by show (0:Int)<p;lia,by show (p:Int)<2^64;lia⟩,?_⟩
        refine ⟨_,rfl,_,rfl,_,_,rfl,rfl,.inr ⟨by show -(2^64:Int)<p;lia,by show (p:Int)<2^64;lia⟩,?_⟩
        exact ⟨_,_,_,rfl,rfl,rfl⟩
    · have c':o=0∧u=0:=by
        have:¬ (0:Int)<(o:Int)+(u:Int):=fun h=>c (decide_eq_true h)
        lia
      refine ⟨_,rfl,?_⟩
      have e:tt=add p m x y:=yga hp hm hx hy fun i=>by
        by_cases e:i<k
        · exact hd i e
        · have hx:x<p^k:=by
            rcases Nat.lt_or_ge x (p^k) with h|h
            · exact h
            · have:=Nat.div_pos h pk;lia
          have hy:y<p^k:=by
            rcases Nat.lt_or_ge y (p^k) with h|h
            · exact h
            · have:=Nat.div_pos h pk;lia
          rw [yaM hp ht (by lia),yaM hp hx (by lia),yaM hp hy (by lia)]
          simp
      subst e
      exact q
inductive zbb (vs:List V) (H:Hp) (Q:VK) (E:XK):Prop
  | mk (tb fa pa la:Addr) (p m t b x y:Nat) (c1:vs=[.ref tb,Vn x,Vn y]) (c2:Tab H tb fa pa la p m t b) (c3:x<p^m) (c4:y<p^m) (c5:Q (Vn (mul p m t x y)) H):zbb vs H Q E
theorem ybR:yai ["_law_table_here","_law_one","_law_other","_law_at"] ["_law_table_here","_law_one","_law_other"] (yac zbm):=⟨rfl,rfl,rfl,by decide +kernel,rfl,by decide +kernel,by decide +kernel⟩
theorem zfm (B:Bl mg) (F:Fun K "_law_times" "_law_times" zbm f fd):FnOk P w K mg base CX0 1 f fd ["_law_table_here","_law_one","_law_other"] zbb:=by
  refine F.ok ybR (fun vs H Q E h=>?_) (fun cdv A outer s H vs Q E hr h=>?_)
  · obtain ⟨tb,fa,pa,la,p,m,t,b,x,y,rfl,_⟩:=h;rfl
  obtain ⟨tb,fa,pa,la,p,m,t,b,x,y,rfl,T,hx,hy,q⟩:=h
  have hp:=T.good.hp
  have hm:=T.good.hm
  refine ⟨_,(((@PW.pt _ _ _ (@zgB _ _ _ _ _ _ _ (ybJ∪(pv 1)∪yab) (@zfq _ _ _ _ (ybJ∪(pv 2)∪yab))))*>((~~~(yab⁻¹)),zaC))<=<(3<|>ybR.nd<|>(zan|||(((pv 0)⊃zax)⊃(pv 1))|||(((pv 0)⊃zax)⊃(pv 2))))<=<(~~~((zai<<<((pv 0)⊃zax)<<<(yaB|||(pv 3)|||(zaH|||((pv 0)⊃zax)|||yab)))⁻¹))),?_⟩
  refine ygU (b1:=decide (x=0)) (b2:=decide (y=0)) (fun Q q=>⟨_,rfl,rfl,_,rfl,?_⟩) (fun Q q=>⟨_,rfl,rfl,_,rfl,?_⟩) ?_
  · rw [zc4];exact q
  · rw [zc4];exact q
  refine ite2 (fun c=>?_) (fun c=>?_)
  · have e:mul p m t x y=0:=by
      simp only [Bool.or_eq_true,decide_eq_true_eq] at c
      rcases c with rfl|rfl
      · exact zero_mul hp hm _
      · exact mul_zero hp hm _
    rw [e] at q
    exact q
  · simp only [Bool.or_eq_true,decide_eq_true_eq,not_or] at c
    obtain ⟨i,hi,ei⟩:=T.prim.all x (by lia) hx
    obtain ⟨j,hj,ej⟩:=T.prim.all y (by lia) hy
    have hQ2:=zas hp hm
    have hQ:=T.good.hq
    have gi:=T.log hi
    have gj:=T.log hj
    rw [ei] at gi
    rw [ej] at gj
    refine ⟨_,rfl,tb,_,rfl,T.get zc0,_,rfl,la,_,rfl,gi,?_⟩
    refine ⟨_,rfl,tb,_,rfl,T.get zc0,_,rfl,la,_,rfl,gj,_,_,rfl,rfl,?_⟩
    refine ⟨_,rfl,tb,_,rfl,T.get ycI,?_⟩
    refine ⟨_,rfl,_,rfl,tb,_,rfl,T.get zce,_,_,rfl,rfl,_,_,rfl,rfl,by show (0:Int)<((p^m:Nat):Int)-1;lia,?_⟩
    have ek:((i:Int)+(j:Int))%(((p^m:Nat):Int)-1)=(((i+j)%(p^m-1):Nat):Int):=by
      rw [Int.natCast_emod,Int.natCast_add,Int.natCast_sub (by lia)];rfl
    have hk:(i+j)%(p^m-1)<p^m-1:=Nat.mod_lt _ (by lia)
    refine ⟨pa,_,_,Vn (pw p m t b ((i+j)%(p^m-1))),rfl,rfl,SqL.of T.w,?_,?_⟩
    · show atI _ (((i:Int)+(j:Int))%(((p^m:Nat):Int)-1))=_
      rw [ek]
      exact zaW (by unfold Pws;rw [List.getElem?_map,List.getElem?_map,List.getElem?_range hk];rfl)
    · have e:pw p m t b ((i+j)%(p^m-1))=mul p m t x y:=by
        rw [T.good.pw_mod T.prim.pos T.prim.lt,za2 hp hm,ei,ej]
      rw [e]
      exact q
end
end My
end
section
-- text: P9
set_option Elab.async false
set_option linter.all false
set_option maxRecDepth 100000
set_option maxHeartbeats 4000000
namespace My
open PySem L2 Dg
theorem yaQ {ws:List Nat} {i:Nat} (h:i<ws.length):(ws.map Vn)[i]?=some (Vn (ws.getD i 0)):=by
  rw [List.getElem?_map,List.getElem?_eq_getElem h];simp [List.getD,h]
theorem zbn {xs:List Nat} {n i:Nat} (h:∀x∈xs,x<n) (hi:i<xs.length):xs.getD i 0<n:=by
  have e:xs.getD i 0=xs[i]:=by simp [List.getD,hi]
  rw [e];exact h _ (List.getElem_mem hi)
theorem ydb {H H':Hp} {l:Addr} {o:HO} (s:Same H H') (h:H l=none):Same H (upd H' l o):=fun b u e=>by rw [zad (zac e h)];exact s _ _ e
theorem mapI (ns:List Nat):(ns.map fun n:Nat=>(n:Int)).map V.int=ns.map Vn:=by rw [List.map_map];rfl
structure yfO (pu g tb fa pa la:Addr):Prop where
  a1:tb≠pu
  a2:tb≠g
  b1:fa≠pu
  b2:fa≠g
  c1:pa≠pu
  c2:pa≠g
  d1:la≠pu
  d2:la≠g
theorem Tab.x {H H':Hp} {pu g tb fa pa la:Addr} {p m t b:Nat} (T:Tab H tb fa pa la p m t b) (a:yfO pu g tb fa pa la) (s:yaj pu g H H'):Tab H' tb fa pa la p m t b :=
  ⟨s _ _ a.a1 a.a2 T.d,s _ _ a.b1 a.b2 T.f,s _ _ a.c1 a.c2 T.w,s _ _ a.d1 a.d2 T.l,T.good,T.prim⟩
noncomputable def trim:List Nat→List Nat
  | []=>[]
  | x::xs=>match trim xs with
    | []=>if x=0 then [] else [x]
    | r=>x::r
theorem zct:∀l:List Nat,trim (l++[0])=trim l
  | []=>rfl
  | x::xs=>by
    show (match trim (xs++[0]) with | []=>_|r=>_)=(match trim xs with | []=>_|r=>_)
    rw [zct xs]
theorem ydw {x:Nat} (h:x≠0):∀l:List Nat,trim (l++[x])=l++[x]
  | []=>by show (if x=0 then [] else [x])=[x];rw [if_neg h]
  | y::xs=>by
    show (match trim (xs++[x]) with | []=>_|r=>_)=y::(xs++[x])
    rw [ydw h xs]
    cases xs <;> rfl
theorem yex {l:List Nat} {e:Nat} (h:e<l.length):l.take (e+1)=l.take e++[l.getD e 0]:=by
  rw [List.take_add_one,List.getElem?_eq_getElem h]
  simp [List.getD,h]
theorem zeV:∀l:List Nat,(trim l).length≤l.length
  | []=>Nat.le_refl _
  | x::xs=>by
    have ih:=zeV xs
    show (match trim xs with | []=>if x=0 then [] else [x]|r=>x::r).length≤xs.length+1
    split
    · split <;> simp
    · rename_i e;rw [List.length_cons];omega
theorem ycW:∀(l:List Nat) (x:Nat),x∈trim l→x∈l
  | [],x,h=>h
  | y::xs,x,h=>by
    have h:x∈(match trim xs with | []=>if y=0 then [] else [y]|r=>y::r):=h
    split at h
    · split at h
      · simp at h
      · simp at h;simp [h]
    · rcases List.mem_cons.mp h with h|h
      · simp [h]
      · exact List.mem_cons_of_mem _ (ycW xs x h)
theorem zdl:∀l:List Nat,trim (trim l)=trim l
  | []=>rfl
  | x::xs=>by
    have ih:=zdl xs
    cases e:trim xs with
    | nil =>
      have e2:trim (x::xs)=if x=0 then [] else [x]:=by show (match trim xs with | []=>_|r=>_)=_;rw [e]
      rw [e2]
      by_cases h:x=0
      · rw [if_pos h];rfl
      · rw [if_neg h];show (if x=0 then [] else [x])=[x];rw [if_neg h]
    | cons y r =>
      have e2:trim (x::xs)=x::y::r:=by show (match trim xs with | []=>_|r=>_)=_;rw [e]
      rw [e2]
      rw [e] at ih
      show (match trim (y::r) with | []=>_|r=>_)=_
      rw [ih]
end My
end
section
-- text: PA
set_option Elab.async false
set_option linter.all false
set_option maxRecDepth 100000
set_option maxHeartbeats 4000000
namespace My
open PySem L2 Dg
noncomputable def rmul (p m t:Nat) (xs ys:List Nat):List Nat:=trim ((List.range (xs.length+ys.length)).map (conv p m t xs ys))
theorem zgR {n j:Nat} (h:j<n):ixN n (j:Int)=some j:=by unfold ixN;rw [if_pos (by lia),if_pos (by lia)];rfl
end My
end
section
-- text: PB
set_option Elab.async false
set_option linter.all false
set_option maxRecDepth 100000
set_option maxHeartbeats 4000000
namespace My
open PySem L2 Dg
theorem yfa:∀l:List Nat,(∀i,l.getD i 0=0)→trim l=[]
  | [],_=>rfl
  | x::xs,h=>by
    have h0:x=0:=h 0
    show (match trim xs with | []=>if x=0 then [] else [x]|r=>x::r)=[]
    rw [yfa xs fun i=>by have:=h (i+1);simpa using this,if_pos h0]
theorem ydB:∀(l:List Nat) (i:Nat),(trim l).getD i 0=l.getD i 0
  | [],i=>rfl
  | x::xs,i=>by
    have ih:=ydB xs
    show (match trim xs with | []=>if x=0 then [] else [x]|r=>x::r).getD i 0=_
    cases e:trim xs with
    | nil =>
      rw [e] at ih
      cases i with
      | zero =>
        by_cases h:x=0
        · subst h;rfl
        · (try dsimp only);rw [if_neg h];rfl
      | succ i =>
        have:=ih i
        by_cases h:x=0
        · subst h;simpa using this
        · (try dsimp only);rw [if_neg h];simpa using this
    | cons y r =>
      rw [e] at ih
      cases i with
      | zero=>rfl
      | succ i=>have:=ih i;simpa using this
theorem ydj {n:Nat} {f:Nat→Nat} (i:Nat):((List.range n).map f).getD i 0=if i<n then f i else 0:=by
  rw [List.getD_eq_getElem?_getD,List.getElem?_map]
  by_cases h:i<n
  · rw [List.getElem?_range h,if_pos h];rfl
  · rw [List.getElem?_eq_none (by simpa using h),if_neg h];rfl
noncomputable def wid (xs:List Nat) (n:Nat):List Nat:=xs++List.replicate (n-xs.length) 0
theorem yd2 {xs:List Nat} {n:Nat} (h:xs.length≤n):(wid xs n).length=n:=by simp [wid];lia
theorem zgS {xs:List Nat} {n q:Nat} (hq:0<q) (h:∀x∈xs,x<q):∀x∈wid xs n,x<q:=by
  intro x hx
  rcases List.mem_append.mp hx with h1|h1
  · exact h x h1
  · rw [(List.mem_replicate.mp h1).2];exact hq
section
variable {p m t:Nat} (hp:2≤p) (hm:1≤m)
include hp hm
theorem zdj {x y:Nat} (hx:x<p^m) (hy:y<p^m):add p m x (mul p m t (p-1) y)=sub p m x y:=by
  refine ybi hp (ya2 hp hm _ _) (ybj hp hm _ _) fun i hi=>?_
  rw [zbj hp hm _ _ i hi,yfy hp hm _ _ i hi,zbc hp hm _ _ i hi]
  have e:∀(k:Nat) (Y:Nat→Nat),1≤k→tn m (dgs p t) k (dgs p (p-1)) Y i=(p-1)*Y i:=by
    intro k Y hk
    obtain ⟨k,rfl⟩:∃k',k=k'+1:=⟨k-1,by lia⟩
    show dg p 0 (p-1)*Y i+tn m (dgs p t) k (fun j=>dg p (j+1) (p-1)) (yaC m (dgs p t) Y) i=_
    rw [zdX _ _ _ _ (fun j=>by rw [ybn,Nat.div_eq_of_lt (by lia),ybG]),zbo,Nat.mod_eq_of_lt (by lia),Nat.add_zero]
  rw [e m _ hm,Nat.add_mod_mod]
end
end My
end
section
-- text: PC
set_option Elab.async false
set_option linter.all false
set_option maxRecDepth 100000
set_option maxHeartbeats 4000000
namespace My
open PySem L2 Dg
section
variable {P:Program} {w:World} {K:PySem.W.Frag} {mg:Str→Option Value} {base:Heap} {f:Addr} {fd:FuncData}
theorem zcT:yai ["_law_table_here","_law_one","_law_many"] ["_law_table_here","_law_one","_law_many"] (yac ybt):=⟨rfl,rfl,rfl,by decide +kernel,rfl,by decide +kernel,by decide +kernel⟩
end
end My
end
section
-- text: PD
set_option Elab.async false
set_option linter.all false
set_option maxRecDepth 100000
set_option maxHeartbeats 4000000
namespace My
open PySem L2 Dg
structure Ord (p m t x n:Nat):Prop where
  pos:1≤n
  one:pw p m t x n=1
  min:∀i,0<i→i<n→pw p m t x i≠1
theorem Ord.le {p m t x n k:Nat} (o:Ord p m t x n) (h0:0<k) (h:pw p m t x k=1):n≤k:=by
  rcases Nat.lt_or_ge k n with h1|h1
  · exact absurd h (o.min k h0 h1)
  · exact h1
theorem Ord.uniq {p m t x n k:Nat} (o:Ord p m t x n) (o':Ord p m t x k):n=k:=Nat.le_antisymm (o.le o'.pos o'.one) (o'.le o.pos o.one)
theorem yfN (x:Nat):decide (Vn x=V.int 1)=decide (x=1):=decide_eq_decide.mpr ⟨fun e=>by injection e with e;lia,fun e=>by rw [e];rfl⟩
section
variable {P:Program} {w:World} {K:PySem.W.Frag} {mg:Str→Option Value} {base:Heap} {f:Addr} {fd:FuncData}
inductive zaP (vs:List V) (H:Hp) (Q:VK) (E:XK):Prop
  | mk (tb fa pa la:Addr) (p m t b x:Nat) (c1:vs=[.ref tb,Vn x]) (c2:Tab H tb fa pa la p m t b) (c3:0<x) (c4:x<p^m) (c5:∀n,Ord p m t x n→n≤p^m-1→Q (Vn n) H):zaP vs H Q E
theorem zbf:yai ["_law_table_here","_law_one","_law_many","_law_thing"] ["_law_table_here","_law_one"] (yac ybk):=⟨rfl,rfl,rfl,by decide +kernel,rfl,by decide +kernel,by decide +kernel⟩
theorem yfq (B:Bl mg) (h__law_times:Has P w K mg base 1 "_law_times" ["_law_table_here","_law_one","_law_other"] zbb) (F:Fun K "_law_round" "_law_round" ybk f fd):FnOk P w K mg base CX0 2 f fd ["_law_table_here","_law_one"] zaP:=by
  refine F.ok zbf (fun vs H Q E h=>?_) (fun cdv A outer s H vs Q E hr h=>?_)
  · obtain ⟨tb,fa,pa,la,p,m,t,b,x,rfl,_⟩:=h;rfl
  obtain ⟨tb,fa,pa,la,p,m,t,b,x,rfl,T,h0,hx,q⟩:=h
  have G:=T.good
  have hp:=G.hp
  have hm:=G.hm
  have hQ:=G.hq
  have hQ2:=zas hp hm
  refine ⟨_,((@zbP _ _ 2 3 _ _ _ _ _ _ _ _ _ _ _ rfl zbf.nd rfl rfl (by decide) rfl rfl (yab>=>(pv 1)>=>zab) rfl (by rfl))<=<(@zbz _ _ _ _ _ _ PassesOwn.never (yeG∪(pv 3)∪yab) (~~~(@zbP _ _ 2 3 _ _ _ _ _ _ _ _ _ _ _ rfl zbf.nd rfl rfl (by decide) rfl rfl ((zan|||(pv 2)|||yab)>=>(h__law_times<$>((pv 0)>=>(pv 3)>=>(pv 1)>=>zab))>=>zab) rfl (by rfl))))<=<(~~~((pv 2)⁻¹))),?_⟩
  refine ⟨_,rfl,_,_,rfl,?_⟩
  refine ybx (fun σ H'=>H'=H∧∃k,1≤k∧k≤p^m-1∧σ=[some (.ref tb),some (Vn x),some (Vn k),some (Vn (pw p m t x k))]∧∀i,0<i→i<k→pw p m t x i≠1) (fun σ _=>p^m-mI σ 2) ⟨rfl,1,by lia,by lia,by rw [yb5 hp hm hx];rfl,fun i h1 h2=>by lia⟩ ?_
  rintro σ H' ⟨rfl,k,hk1,hk2,rfl,hne⟩
  refine ⟨_,rfl,rfl,_,rfl,?_⟩
  rw [yfN]
  refine ite2 (fun c=>?_) (fun c=>?_)
  · have hk:pw p m t x k≠1:=by
      intro e
      rw [decide_eq_true e] at c
      exact absurd c (by decide)
    have hk3:k<p^m-1:=by
      rcases Nat.lt_or_ge k (p^m-1) with h|h
      · exact h
      · have:k=p^m-1:=by lia
        rw [this] at hk
        exact absurd (G.fermat h0 hx) hk
    refine ⟨fun σ' H''=>H''=H'∧σ'=[some (.ref tb),some (Vn x),some (Vn (k+1)),some (Vn (pw p m t x (k+1)))],?_,?_⟩
    · rintro σ' H'' ⟨rfl,rfl⟩
      refine ⟨_,?_,rfl,rfl,k+1,by lia,by lia,rfl,fun i h1 h2=>?_⟩
      · show p^m-(k+1)<p^m-k;lia
      · rcases Nat.lt_or_ge i k with h|h
        · exact hne i h1 h
        · rw [show i=k by lia];exact hk
    · refine ⟨_,rfl,_,_,rfl,rfl,_,rfl,_,rfl,_,rfl,tb,fa,pa,la,p,m,t,b,pw p m t x k,x,rfl,T,zaA hp hm _ _,hx,?_⟩
      exact ⟨_,_,rfl,rfl,rfl⟩
  · have hk:pw p m t x k=1:=by
      rcases Nat.decEq (pw p m t x k) 1 with h|h
      · exact absurd (by rw [decide_eq_false h];rfl) c
      · exact h
    exact ⟨_,rfl,q k ⟨hk1,hk,hne⟩ hk2⟩
theorem zf0 {xs:List V} {v:V} (h:xs[xs.length-1]?=some v):atI xs (-1)=some v:=by
  have hl:0<xs.length:=by
    have:=(List.getElem?_eq_some_iff.mp h).1;lia
  unfold atI ixN
  rw [if_neg (by decide),if_pos (by lia)]
  show (some _).bind _=_
  rw [Option.bind_some,←h]
  congr 1
  lia
end
end My
end
section
-- text: PE
set_option Elab.async false
set_option linter.all false
set_option maxRecDepth 100000
set_option maxHeartbeats 4000000
namespace My
open PySem L2 Dg
local macro_rules | `(tactic| walk_at "rd") => `(tactic| repeat (first | refine ⟨_, rfl, ?_⟩ | refine ⟨_, _, rfl, rfl, ?_⟩))
noncomputable def yar (p m t c:Nat) (xs:List Nat):List Nat:=(List.range xs.length).map fun i=>mul p m t c (xs.getD i 0)
noncomputable def pwz (p m t x:Nat) (z:Int):Nat:=if x=0 then (if z=0 then 1 else 0) else pw p m t x (z%(((p^m:Nat):Int)-1)).toNat
section
variable {p m t:Nat} (G:Good p m t)
include G
theorem ycc (c:Nat) (xs:List Nat):∀x∈yar p m t c xs,x<p^m:=fun x hx=>by
  obtain ⟨i,_,rfl⟩:=List.mem_map.mp hx
  exact zap G.hp G.hm _ _
theorem zeX {x:Nat} (hx:x<p^m) (n:Nat):pwz p m t x (n:Int)=pw p m t x n:=by
  unfold pwz
  have hQ:=zas G.hp G.hm
  by_cases c:x=0
  · rw [if_pos c,c]
    cases n with
    | zero=>rfl
    | succ n=>rw [ybq G.hp G.hm,if_neg (by lia)]
  · rw [if_neg c,show ((n:Int)%(((p^m:Nat):Int)-1)).toNat=n%(p^m-1) from ?_,G.pw_mod (by lia) hx]
    rw [show ((p^m:Nat):Int)-1=((p^m-1:Nat):Int) by lia,←Int.natCast_emod];rfl
end
section
variable {P:Program} {w:World} {K:PySem.W.Frag} {mg:Str→Option Value} {base:Heap} {f:Addr} {fd:FuncData}
inductive ycd (vs:List V) (H:Hp) (Q:VK) (E:XK):Prop
  | mk (tb fa pa la:Addr) (p m t b x:Nat) (z:Int) (c1:vs=[.ref tb,Vn x,.int z]) (c2:Tab H tb fa pa la p m t b) (c3:x<p^m) (c4:Q (Vn (pwz p m t x z)) H):ycd vs H Q E
theorem zfV (B:Bl mg) (F:Fun K "_law_power" "_law_power" ybt f fd):FnOk P w K mg base CX0 1 f fd ["_law_table_here","_law_one","_law_many"] ycd:=by
  refine F.ok zcT (fun vs H Q E h=>?_) (fun cdv A outer s H vs Q E hr h=>?_)
  · obtain ⟨tb,fa,pa,la,p,m,t,b,x,n,rfl,_⟩:=h;rfl
  obtain ⟨tb,fa,pa,la,p,m,t,b,x,z,rfl,T,hx,q⟩:=h
  have hp:=T.good.hp
  have hm:=T.good.hm
  have hQ2:=zas hp hm
  have hQ:=T.good.hq
  unfold pwz at q
  refine ⟨_,(((ybJ∪(pv 1)∪yab)*>((~~~((zcq<*("int",ybI,((@zcR _ _ _ _ _ _ _ _ ybJ (pv 2) yab (yds _))>=>zab)))⁻¹)),zaC))<=<(~~~((zai<<<((pv 0)⊃zax)<<<(yaB|||(yaH|||(((pv 0)⊃zax)⊃(pv 1))|||(pv 2))|||(zaH|||((pv 0)⊃zax)|||yab)))⁻¹))),?_⟩
  refine ⟨_,rfl,rfl,_,rfl,?_⟩
  rw [zc4]
  refine ite2 (fun c=>?_) (fun c=>?_)
  · have x0:x=0:=of_decide_eq_true c
    rw [if_pos x0] at q
    refine ⟨_,rfl,rfl,.inr ⟨_,rfl,?_⟩⟩
    by_cases cz:z=0
    · rw [if_pos cz] at q
      rw [if_pos (decide_eq_true (by rw [cz]))]
      exact q
    · rw [if_neg cz] at q
      rw [if_neg (fun h=>cz (by have:=of_decide_eq_true h;injection this))]
      exact q
  · have x0:0<x:=by
      have:¬ x=0:=fun h=>c (decide_eq_true h)
      lia
    rw [if_neg (by lia)] at q
    obtain ⟨i,hi,ei⟩:=T.prim.all x x0 hx
    have gi:=T.log hi
    rw [ei] at gi
    refine ⟨_,rfl,tb,_,rfl,T.get ycI,?_⟩
    refine ⟨_,rfl,tb,_,rfl,T.get zc0,_,rfl,la,_,rfl,gi,_,rfl,_,_,rfl,rfl,.inl ⟨by lia,by lia⟩,?_⟩
    refine ⟨_,rfl,tb,_,rfl,T.get zce,_,_,rfl,rfl,_,_,rfl,rfl,by show (0:Int)<((p^m:Nat):Int)-1;lia,?_⟩
    have hz0:=Int.emod_nonneg z (show ((p^m:Nat):Int)-1≠0 by lia)
    have hz1:=Int.emod_lt_of_pos z (show (0:Int)<((p^m:Nat):Int)-1 by lia)
    obtain ⟨n,en⟩:=Int.eq_ofNat_of_zero_le hz0
    rw [en] at q hz1
    have ek:((i:Int)*z)%(((p^m:Nat):Int)-1)=(((i*n)%(p^m-1):Nat):Int):=by
      rw [Int.mul_emod,en,Int.natCast_emod,Int.natCast_mul,Int.natCast_sub (by lia)]
      rw [Int.mul_emod]
      simp
      exact (Int.mul_emod _ _ _).symm
    have hk:(i*n)%(p^m-1)<p^m-1:=Nat.mod_lt _ (by lia)
    refine ⟨pa,_,_,Vn (pw p m t b ((i*n)%(p^m-1))),rfl,rfl,SqL.of T.w,?_,?_⟩
    · show atI _ (((i:Int)*z)%(((p^m:Nat):Int)-1))=_
      rw [ek]
      exact zaW (by unfold Pws;rw [List.getElem?_map,List.getElem?_map,List.getElem?_range hk];rfl)
    · have e:pw p m t b ((i*n)%(p^m-1))=pw p m t x n:=by
        rw [T.good.pw_mod T.prim.pos T.prim.lt,zaE hp hm,ei]
      rw [e]
      exact q
inductive yck (vs:List V) (H:Hp) (Q:VK) (E:XK):Prop
  | mk (tb fa pa la:Addr) (p m t b x y:Nat) (c1:vs=[.ref tb,Vn x,Vn y]) (c2:Tab H tb fa pa la p m t b) (c3:x<p^m) (c4:y<p^m) (c5:Q (Vn (sub p m x y)) H):yck vs H Q E
theorem zde:yai ["_law_table_here","_law_one","_law_other"] ["_law_table_here","_law_one","_law_other"] (yac zbt):=⟨rfl,rfl,rfl,by decide +kernel,rfl,by decide +kernel,by decide +kernel⟩
theorem yeS (B:Bl mg) (h__law_plus:Has P w K mg base 1 "_law_plus" ["_law_table_here","_law_one","_law_other"] ycb) (h__law_times:Has P w K mg base 1 "_law_times" ["_law_table_here","_law_one","_law_other"] zbb) (F:Fun K "_law_minus" "_law_minus" zbt f fd):FnOk P w K mg base CX0 2 f fd ["_law_table_here","_law_one","_law_other"] yck:=by
  refine F.ok zde (fun vs H Q E h=>?_) (fun cdv A outer s H vs Q E hr h=>?_)
  · obtain ⟨tb,fa,pa,la,p,m,t,b,x,y,rfl,_⟩:=h;rfl
  obtain ⟨tb,fa,pa,la,p,m,t,b,x,y,rfl,T,hx,hy,q⟩:=h
  have hp:=T.good.hp
  have hm:=T.good.hm
  have hpp:p≤p^m:=by simpa using Nat.pow_le_pow_right (show 0<p by lia) hm
  refine ⟨_,(~~~((h__law_plus<$>((pv 0)>=>(pv 1)>=>(h__law_times<$>((pv 0)>=>(zaH|||((pv 0)⊃zax)|||yab)>=>(pv 2)>=>zab))>=>zab))⁻¹)),?_⟩
  refine ⟨_,rfl,_,rfl,_,rfl,_,rfl,tb,_,rfl,T.get zdU,_,_,rfl,rfl,_,rfl,?_⟩
  refine ⟨tb,fa,pa,la,p,m,t,b,p-1,y,by show [_,V.int ((p:Int)-1),_]=_;rw [show (p:Int)-1=((p-1:Nat):Int) by lia],T,by lia,hy,?_⟩
  refine ⟨tb,fa,pa,la,p,m,t,b,x,mul p m t (p-1) y,rfl,T,hx,zap hp hm _ _,?_⟩
  rw [zdj hp hm hx hy]
  exact q
end
end My
end
section
-- text: PF
set_option Elab.async false
set_option linter.all false
set_option maxRecDepth 100000
set_option maxHeartbeats 4000000
namespace My
open PySem L2 Dg
local macro_rules | `(tactic| walk_at "rd") => `(tactic| repeat (first | refine ⟨_, rfl, ?_⟩ | refine ⟨_, _, rfl, rfl, ?_⟩))
end My
end
section
-- text: PJ
set_option Elab.async false
set_option linter.all false
set_option maxRecDepth 100000
set_option maxHeartbeats 4000000
namespace My
open PySem L2 Dg
local macro_rules | `(tactic| walk_at "rd") => `(tactic| repeat (first | refine ⟨_, rfl, ?_⟩ | refine ⟨_, _, rfl, rfl, ?_⟩))
section
variable {p m t:Nat} (G:Good p m t)
include G
theorem Ord.dvd {x n k:Nat} (hx:x<p^m) (o:Ord p m t x n) (h:pw p m t x k=1):k%n=0:=by
  have hp:=G.hp
  have hm:=G.hm
  rcases Nat.eq_zero_or_pos (k%n) with c|c
  · exact c
  · have e:pw p m t x (n*(k/n)+k%n)=1:=by rw [Nat.div_add_mod];exact h
    rw [za2 hp hm,zaE hp hm,o.one,yaY hp hm,one_mul hp hm (zaA hp hm _ _)] at e
    exact absurd e (o.min _ c (Nat.mod_lt _ (by have:=o.pos;lia)))
theorem Ord.round {x n few:Nat} (h0:0<x) (hx:x<p^m) (o:Ord p m t x n) (hf:m%few=0) (hf1:1≤few):(p^few)^(m/few)%n=1%n:=by
  have hp:=G.hp
  have hm:=G.hm
  have h1:=Ord.dvd G hx o (G.fermat h0 hx)
  have hQ:=zas hp hm
  have e:few*(m/few)=m:=by have:=Nat.div_add_mod m few;rw [hf] at this;lia
  rw [←Nat.pow_mul,e]
  obtain ⟨c,hc⟩:=Nat.dvd_of_mod_eq_zero h1
  rw [show p^m=1+n*c by lia,Nat.add_mul_mod_self_left]
end
section
variable {P:Program} {w:World} {K:PySem.W.Frag} {mg:Str→Option Value} {base:Heap} {f:Addr} {fd:FuncData}
noncomputable def zbi (i n q L:Nat):List Nat:=(List.range L).map fun j=>i*q^j%n
theorem zdA {i n q L j:Nat} (h:j<L):(zbi i n q L).getD j 0=i*q^j%n:=by unfold zbi;rw [List.getD_eq_getElem?_getD,List.getElem?_map,List.getElem?_range h];rfl
theorem ybS {q e n:Nat} (hr:q^e%n=1%n) (he:1≤e) (i a:Nat):i*q^a*q^(e*a-a)%n=i%n:=by
  have h:a≤e*a:=Nat.le_mul_of_pos_left a he
  rw [Nat.mul_assoc,←Nat.pow_add,show a+(e*a-a)=e*a by lia,Nat.pow_mul,Nat.mul_mod,Nat.pow_mod,hr,←Nat.pow_mod,Nat.one_pow,←Nat.mul_mod,Nat.mul_one]
theorem yen {i n q e L:Nat} (hr:q^e%n=1%n) (he:1≤e) (h:∀j,0<j→j<L→i*q^j%n≠i%n):(zbi i n q L).Nodup:=by
  refine yaV _ fun a b ha hb e1=>?_
  have key:∀a b:Nat,a<b→b<L→i*q^a%n=i*q^b%n→False:=fun a b hab hb e1=>by
    refine h (b-a) (by lia) (by lia) ?_
    have e2:=ybS hr he i a
    rw [Nat.mul_mod,e1,←Nat.mul_mod,show i*q^b=i*q^(b-a)*q^a by rw [Nat.mul_assoc,←Nat.pow_add,show b-a+a=b by lia],ybS hr he] at e2
    exact e2
  rcases Nat.lt_trichotomy a b with h1|h1|h1
  · exact (key a b h1 hb e1).elim
  · exact h1
  · exact (key b a h1 ha e1.symm).elim
theorem zfG {i n q L:Nat} (heq:i*q^L%n=i*q^0%n) (hL:0<L) (j:Nat):i*q^j%n∈zbi i n q L:=by
  induction j with
  | zero=>exact List.mem_map.mpr ⟨0,List.mem_range.mpr hL,rfl⟩
  | succ j ih =>
    obtain ⟨k,hk,ek⟩:=List.mem_map.mp ih
    have hk:=List.mem_range.mp hk
    have e2:i*q^(j+1)%n=i*q^(k+1)%n:=by
      rw [Nat.pow_succ,Nat.pow_succ,←Nat.mul_assoc,←Nat.mul_assoc,Nat.mul_mod,←ek,←Nat.mul_mod]
    rw [e2]
    by_cases c:k+1<L
    · exact List.mem_map.mpr ⟨k+1,List.mem_range.mpr c,rfl⟩
    · rw [show k+1=L by lia,heq]
      exact List.mem_map.mpr ⟨0,List.mem_range.mpr hL,rfl⟩
inductive zbT (vs:List V) (H:Hp) (Q:VK) (E:XK):Prop
  | mk (i n q e:Nat) (c1:vs=[Vn i,Vn n,Vn q]) (c2:0<n) (c3:n≤64) (c4:q≤64) (c5:1≤e) (c6:e≤6) (c7:q^e%n=1%n) (c8:∀r (ns:List Nat) H',Same H H'→H r=none→H' r=some (.lst (ns.map Vn))→0<ns.length→ns.length≤6→(∀x∈ns,x<n)→(∀x∈ns,x*q%n∈ns)→ns.Nodup→(∀x∈ns,∃j,x=i*q^j%n)→(∀j,i*q^j%n∈ns)→Q (.ref r) H'):zbT vs H Q E
theorem zb4:yai ["_law_i","_law_n","_law_q","_law_found"] ["_law_i","_law_n","_law_q"] (yac zbL):=⟨rfl,rfl,rfl,by decide +kernel,rfl,by decide +kernel,by decide +kernel⟩
theorem zfH (B:Bl mg) (F:Fun K "_law_ring" "_law_ring" zbL f fd):FnOk P w K mg base CX0 1 f fd ["_law_i","_law_n","_law_q"] zbT:=by
  refine F.ok zb4 (fun vs H Q E h=>?_) (fun cdv A outer s H vs Q E hr h=>?_)
  · obtain ⟨i,n,q,e,rfl,_⟩:=h;rfl
  obtain ⟨i,n,q,e,rfl,hn,hn2,hq,he1,he2,hr1,q'⟩:=h
  refine ⟨_,((3<|>zb4.nd<|>(@yam _ _ _ _ ((yaB|||(pv 0)|||(pv 1))>=>zab)))<=<(@zbz _ _ _ _ _ _ PassesOwn.never (yeG∪(yaB|||(yaH|||(zai<<<(pv 3)<<<(@zeq _ _ _ _ _ _ ycP yab))|||(pv 2))|||(pv 1))∪(zai<<<(pv 3)<<<yab)) (~~~(@zbW _ _ _ _ (@zet _ _ _ _ _ _ _ _ _ _ _ _ PySem.F.plainAttrs_list PySem.F.slot_list_append PySem.F.type_list_append ybP (pv 3) ((yaB|||(yaH|||(zai<<<(pv 3)<<<(@zeq _ _ _ _ _ _ ycP yab))|||(pv 2))|||(pv 1))>=>zab) (by rfl) (by rfl) (by rfl) (by rfl) (by rfl)) (by rfl))))<=<(~~~((pv 3)⁻¹))),?_⟩
  refine ⟨_,rfl,_,rfl,_,_,rfl,rfl,by show (0:Int)<n;lia,szl 1,fun l hl=>?_⟩
  dsimp only [yan]
  refine ybx (fun σ H'=>∃L:Nat,1≤L∧L≤e∧(∀j,0<j→j<L→i*q^j%n≠i%n)∧H'=upd H l (.lst ((zbi i n q L).map Vn))∧σ=[some (Vn i),some (Vn n),some (Vn q),some (.ref l)]) (fun _ H'=>7-zcZ H' l) ⟨1,Nat.le_refl _,he1,fun j _ _=>by lia,by simp [zbi];rfl,rfl⟩ ?_
  rintro σ H' ⟨L,h1,h2,hne0,rfl,rfl⟩
  have el:upd H l (.lst ((zbi i n q L).map Vn)) l=some (.lst ((zbi i n q L).map Vn)):=zaa
  have ll:(zbi i n q L).length=L:=by simp [zbi]
  have hlast:atI ((zbi i n q L).map Vn) (-1)=some (Vn (i*q^(L-1)%n)):=zf0 (by rw [List.length_map,ll,yaQ (by lia),zdA (by lia)])
  have hfirst:atI ((zbi i n q L).map Vn) 0=some (Vn (i*q^0%n)):=zaW (j:=0) (by rw [yaQ (by lia),zdA (by lia)])
  have hml:i*q^(L-1)%n<n:=Nat.mod_lt _ hn
  refine ⟨_,rfl,_,rfl,l,_,_,_,rfl,rfl,SqL.of el,hlast,_,rfl,_,_,rfl,rfl,.inl ⟨by show -(2^64:Int)<((i*q^(L-1)%n:Nat):Int);lia,by show ((i*q^(L-1)%n:Nat):Int)<2^64;lia⟩,?_⟩
  refine ⟨_,rfl,_,_,rfl,rfl,by show (0:Int)<n;lia,?_⟩
  refine ⟨_,rfl,l,_,_,_,rfl,rfl,SqL.of el,hfirst,rfl,_,rfl,?_⟩
  have en:(i*q^(L-1)%n)*q%n=i*q^L%n:=by
    rw [Nat.mod_mul_mod,Nat.mul_assoc,←Nat.pow_succ,show (L-1).succ=L by lia]
  have e0:i*q^0%n=i%n:=by rw [Nat.pow_zero,Nat.mul_one]
  refine ite2 (fun c=>?_) (fun c=>?_)
  · have hne:i*q^L%n≠i%n:=by
      intro h
      have:(V.int ((((i*q^(L-1)%n:Nat):Int)*(q:Int))%(n:Int)))=Vn (i*q^0%n):=by
        show V.int _=V.int _
        congr 1
        rw [e0,←h,←en];rfl
      rw [decide_eq_true this] at c
      exact absurd c (by decide)
    have hL:L<e:=by
      rcases Nat.lt_or_ge L e with h|h
      · exact h
      · have hle:L=e:=by lia
        rw [hle] at hne
        refine absurd ?_ hne
        rw [Nat.mul_mod,hr1,←Nat.mul_mod,Nat.mul_one]
    refine ⟨fun σ' H'=>H'=upd H l (.lst ((zbi i n q (L+1)).map Vn))∧σ'=[some (Vn i),some (Vn n),some (Vn q),some (.ref l)],?_,?_⟩
    · rintro σ' H' ⟨rfl,rfl⟩
      refine ⟨_,?_,rfl,L+1,by lia,by lia,fun j j0 j1=>?_,rfl,rfl⟩
      case refine_2 =>
        rcases Nat.lt_or_ge j L with h|h
        · exact hne0 j j0 h
        · rw [show j=L by lia];exact hne
      rw [ybC zaa,ybC zaa,List.length_map,List.length_map,ll,show (zbi i n q (L+1)).length=L+1 by simp [zbi]]
      lia
    · refine ⟨_,rfl,.inl ⟨rfl,_,SqL.of el⟩,?_⟩
      refine ⟨_,rfl,_,rfl,l,_,_,_,rfl,rfl,SqL.of el,hlast,_,rfl,_,_,rfl,rfl,.inl ⟨by show -(2^64:Int)<((i*q^(L-1)%n:Nat):Int);lia,by show ((i*q^(L-1)%n:Nat):Int)<2^64;lia⟩,?_⟩
      refine ⟨_,rfl,_,_,rfl,rfl,by show (0:Int)<n;lia,?_⟩
      refine ⟨l,_,_,rfl,rfl,el,by rw [List.length_map,ll];exact zaf (by lia),?_,rfl⟩
      rw [zd4]
      congr 2
      have e1:zbi i n q (L+1)=zbi i n q L++[i*q^L%n]:=by unfold zbi;rw [List.range_succ,List.map_append];rfl
      rw [e1,List.map_append,←en];rfl
  · have heq:i*q^L%n=i*q^0%n:=by
      have h:decide (V.int ((((i*q^(L-1)%n:Nat):Int)*(q:Int))%(n:Int))=Vn (i*q^0%n))=true:=by
        rcases hb:decide (V.int ((((i*q^(L-1)%n:Nat):Int)*(q:Int))%(n:Int))=Vn (i*q^0%n)) with _|_
        · exact absurd (show (!decide (V.int ((((i*q^(L-1)%n:Nat):Int)*(q:Int))%(n:Int))=Vn (i*q^0%n)))=true by rw [hb];rfl) c
        · rfl
      have h2:=V.int.inj (of_decide_eq_true h)
      rw [←en]
      exact Int.ofNat.inj h2
    refine ⟨_,rfl,q' l (zbi i n q L) _ (yaa hl _) hl el (by rw [ll];lia) (by rw [ll];lia) (fun x hx=>?_) (fun x hx=>?_) ?_ (fun x hx=>?_) (zfG heq (by lia))⟩
    rotate_left 2
    · refine yen hr1 (by lia) hne0
    · obtain ⟨j,_,rfl⟩:=List.mem_map.mp hx
      exact ⟨j,rfl⟩
    · obtain ⟨j,_,rfl⟩:=List.mem_map.mp hx
      exact Nat.mod_lt _ hn
    · obtain ⟨j,hj,rfl⟩:=List.mem_map.mp hx
      have hj:=List.mem_range.mp hj
      have e2:i*q^j%n*q%n=i*q^(j+1)%n:=by rw [Nat.mod_mul_mod,Nat.mul_assoc,←Nat.pow_succ]
      rw [e2]
      by_cases cj:j+1<L
      · exact List.mem_map.mpr ⟨j+1,List.mem_range.mpr cj,rfl⟩
      · rw [show j+1=L by lia,heq]
        exact List.mem_map.mpr ⟨0,List.mem_range.mpr (by lia),rfl⟩
theorem zfI (a b:Nat):decide (V.int ((a:Int)%(b:Int))=V.int 0)=decide (a%b=0) :=
  decide_eq_decide.mpr ⟨fun e=>Int.ofNat.inj (show Int.ofNat (a%b)=Int.ofNat 0 from V.int.inj e),fun e=>congrArg V.int (show Int.ofNat (a%b)=Int.ofNat 0 from congrArg Int.ofNat e)⟩
structure Whl (p m t few root n:Nat) (marks:List Nat):Prop where
  few1:1≤few
  fewm:m%few=0
  r0:0<root
  rq:root<p^m
  ord:Ord p m t root n
  nq:n≤p^m-1
  asc:marks.Pairwise (· < ·)
  lt:∀x∈marks,x<n
  closed:∀x∈marks,x*p^few%n∈marks
structure WhAt (H:Hp) (wh fa mk:Addr) (few root:Nat) (marks:List Nat):Prop where
  w:H wh=some (.tup [.ref fa,Vn few,Vn root,.ref mk])
  k:H mk=some (.tup (marks.map Vn))
theorem WhAt.same {H H':Hp} {wh fa mk:Addr} {few root:Nat} {marks:List Nat} (h:WhAt H wh fa mk few root marks) (s:Same H H'):WhAt H' wh fa mk few root marks:=⟨s _ _ h.w,s _ _ h.k⟩
theorem WhAt.x {pu g:Addr} {H H':Hp} {wh fa mk:Addr} {few root:Nat} {marks:List Nat} (h:WhAt H wh fa mk few root marks) (n1:wh≠pu∧wh≠g) (n2:mk≠pu∧mk≠g) (s:yaj pu g H H'):WhAt H' wh fa mk few root marks:=⟨s _ _ n1.1 n1.2 h.w,s _ _ n2.1 n2.2 h.k⟩
noncomputable def ya6 (p m t:Nat) (H:Hp) (a:Addr):Prop:=∃n x:Nat,H a=some (.tup [Vn n,Vn x])∧Ord p m t x n∧n≤p^m-1∧0<x∧x<p^m
theorem ya6.same {p m t:Nat} {H H':Hp} {a:Addr} (h:ya6 p m t H a) (s:Same H H'):ya6 p m t H' a:=by obtain ⟨n,x,h1,r⟩:=h;exact ⟨n,x,s _ _ h1,r⟩
theorem Pu.tup_ne {H:Hp} {pu g a:Addr} {xs:List V} (h:Pu H pu g) (e:H a=some (.tup xs)):a≠pu∧a≠g:=by
  obtain ⟨ns,s,t,h1,h2⟩:=h
  exact ⟨fun q=>(by rw [q,h1] at e;cases e),fun q=>(by rw [q,h2] at e;cases e)⟩
noncomputable def pn (H:Hp) (a:Addr):Nat:=match H a with
  | some (.tup (.int n::_))=>n.toNat
  | _=>0
theorem yb0 {H:Hp} {a:Addr} {n x:Nat} (h:H a=some (.tup [Vn n,Vn x])):pn H a=n:=by unfold pn;rw [h];rfl
theorem yaT {α:Type} {xs:List α} {k:Nat} {a:α} (h:xs[k]?=some a):xs.take (k+1)=xs.take k++[a]:=by
  obtain ⟨hk,e⟩:=List.getElem?_eq_some_iff.mp h
  rw [List.take_succ_eq_append_getElem hk,e]
theorem ycZ {ts:List Addr} {k:Nat} {z:V} (h:(ts.map V.ref)[k]?=some z):∃a,ts[k]?=some a∧z = .ref a:=by
  rw [List.getElem?_map] at h
  rcases e:ts[k]? with _|a
  · rw [e] at h;cases h
  · rw [e] at h;exact ⟨a,rfl,(Option.some.inj h).symm⟩
inductive ycy (vs:List V) (H:Hp) (Q:VK) (E:XK):Prop
  | mk (pu g:Addr) (most:Nat) (c1:vs=[.ref pu,Vn most]) (c2:Pu H pu g) (c3:1≤most) (c4:∀(r tb fa pa la wh mk:Addr) (p m t b few root n:Nat) (marks:List Nat) H',H' r=some (.tup [.ref tb,.ref wh])→Tab H' tb fa pa la p m t b→yfO pu g tb fa pa la→WhAt H' wh fa mk few root marks→(wh≠pu∧wh≠g)→(mk≠pu∧mk≠g)→(r≠pu∧r≠g)→Whl p m t few root n marks→n≤most→Pu H' pu g→yaj pu g H H'→Q (.ref r) H'):ycy vs H Q E
theorem yad:yai ["_law_purse_here","_law_most","_law_way","_law_far","_law_table_here","_law_fews","_law_few","_law_q","_law_rounds","_law_greatest","_law_n","_law_root","_law_marks","_law_first","_law_many","_law_k"] ["_law_purse_here","_law_most"] (yac zat):=⟨rfl,rfl,rfl,by decide +kernel,rfl,by decide +kernel,by decide +kernel⟩
theorem zfx (B:Bl mg) (h__law_pick:Has P w K mg base 1 "_law_pick" ["_law_purse_here","_law_many"] ybX) (h__law_field:Has P w K mg base 4 "_law_field" ["_law_purse_here"] zcS) (h__law_table:Has P w K mg base 3 "_law_table" ["_law_field_here"] zc1) (h__law_raised:Has P w K mg base 1 "_law_raised" ["_law_one","_law_many"] yah)
    (h__law_round:Has P w K mg base 2 "_law_round" ["_law_table_here","_law_one"] zaP) (h__law_ring:Has P w K mg base 1 "_law_ring" ["_law_i","_law_n","_law_q"] zbT) (F:Fun K "_law_wheel" "_law_wheel" zat f fd):FnOk P w K mg base CX0 5 f fd ["_law_purse_here","_law_most"] ycy:=by
  refine F.ok yad (fun vs H Q E h=>?_) (fun cdv A outer s H vs Q E hr h=>?_)
  · obtain ⟨pu,g,most,rfl,_⟩:=h;rfl
  obtain ⟨pu,g,most,rfl,hP,hmost,q⟩:=h
  refine ⟨_,((@zbP _ _ 2 3 _ _ _ _ _ _ _ _ _ _ _ rfl yad.nd rfl rfl (by decide) rfl rfl ((h__law_pick<$>((pv 0)>=>yab>=>zab))>=>(h__law_pick<$>((pv 0)>=>yab>=>zab))>=>zab) rfl (by rfl))<=<(4<|>yad.nd<|>(h__law_table<$>((h__law_field<$>((pv 0)>=>zab))>=>zab)))<=<(@za7 _ 5 _ _ _ _ _ _ _ _ _ ["_law_few"] ["_law_table_here"] [4] _ _ _ _ yad.nd rfl (Or.inl rfl) (id (α:=CSc ["_law_purse_here","_law_most","_law_way","_law_far","_law_table_here","_law_fews","_law_few","_law_q","_law_rounds","_law_greatest","_law_n","_law_root","_law_marks","_law_first","_law_many","_law_k"] (yac zat) ["_law_few"] ["_law_table_here"] [4] _) ⟨by rfl,by decide +kernel,by decide +kernel,by decide +kernel,by decide +kernel,by rfl,by decide +kernel⟩) rfl (@zbN _ _ _ _ _ _ _ rfl (B "range" (by decide)) (yab>=>(zan|||((pv 4)⊃zax)|||yab)>=>zab) (by rfl) (by rfl)) (fun cl C fp s H=>(0⊇["_law_few","_law_table_here"])) (fun _ _ _ _ _=>(@zbE _ _ _ (ybJ∪(yaB|||((pv 1)⊃zax)|||(pv 0))∪yab))) (fun _ _ _ _ _=>(pv 0)) (by rfl) (by intro _;rfl) (by first|exact .inl rfl|exact .inr rfl|assumption))<=<(6<|>yad.nd<|>(zai<<<(pv 5)<<<(h__law_pick<$>((pv 0)>=>(yal>>>("len",PySem.boot_len,((pv 5)>=>zab)))>=>zab))))<=<(7<|>yad.nd<|>(h__law_raised<$>(((pv 4)⊃zax)>=>(pv 6)>=>zab)))<=<(@za7 _ 8 _ _ _ _ _ _ _ _ _ ["_law_one"] ["_law_table_here"] [4] _ _ _ _ yad.nd rfl (Or.inl rfl) (id (α:=CSc ["_law_purse_here","_law_most","_law_way","_law_far","_law_table_here","_law_fews","_law_few","_law_q","_law_rounds","_law_greatest","_law_n","_law_root","_law_marks","_law_first","_law_many","_law_k"] (yac zat) ["_law_one"] ["_law_table_here"] [4] _) ⟨by rfl,by decide +kernel,by decide +kernel,by decide +kernel,by decide +kernel,by rfl,by decide +kernel⟩) rfl (@zbN _ _ _ _ _ _ _ rfl (B "range" (by decide)) (yab>=>((pv 4)⊃zax)>=>zab) (by rfl) (by rfl)) (fun cl C fp s H=>(0⊇["_law_one","_law_table_here"])) (fun _ _ _ _ _=>yaw) (fun _ _ _ _ _=>(@ybb _ _ _ _ _ ((h__law_round<$>((pv 1)>=>(pv 0)>=>zab))>=>(pv 0)>=>zab))) (by rfl) (by intro _;rfl) (by first|exact .inl rfl|exact .inr rfl|assumption))<=<(@za7 _ 8 _ _ _ _ _ _ _ _ _ ["_law_pair"] ["_law_most"] [1] _ _ _ _ yad.nd rfl (Or.inl rfl) (id (α:=CSc ["_law_purse_here","_law_most","_law_way","_law_far","_law_table_here","_law_fews","_law_few","_law_q","_law_rounds","_law_greatest","_law_n","_law_root","_law_marks","_law_first","_law_many","_law_k"] (yac zat) ["_law_pair"] ["_law_most"] [1] _) ⟨by rfl,by decide +kernel,by decide +kernel,by decide +kernel,by decide +kernel,by rfl,by decide +kernel⟩) rfl (@zaI _ _ _ _ (pv 8)) (fun cl C fp s H=>(0⊇["_law_pair","_law_most"])) (fun _ _ _ _ _=>(@zbE _ _ _ (yg0∪((zd2 (K:=K) rfl)<<<(pv 0)<<<yab)∪(pv 1)))) (fun _ _ _ _ _=>(pv 0)) (by rfl) (by intro _;rfl) (by first|exact .inl rfl|exact .inr rfl|assumption))<=<(9<|>yad.nd<|>((zeI rfl)>>>("max",ydE,((["_law_pair"]⊆([],[],["_law_purse_here","_law_most","_law_way","_law_far","_law_table_here","_law_fews","_law_few","_law_q","_law_rounds","_law_greatest","_law_n","_law_root","_law_marks","_law_first","_law_many","_law_k"],zat,(@zaI _ _ _ _ (pv 8)),(0⊇["_law_pair"]),yaw,((zd2 (K:=K) rfl)<<<(pv 0)<<<yab)))>=>zab))))<=<((zdP∪(pv 3)∪yab)*>((~~~(@za7 _ 8 _ _ _ _ _ _ _ _ _ ["_law_pair"] ["_law_greatest"] [9] _ _ _ _ yad.nd rfl (Or.inl rfl) (id (α:=CSc ["_law_purse_here","_law_most","_law_way","_law_far","_law_table_here","_law_fews","_law_few","_law_q","_law_rounds","_law_greatest","_law_n","_law_root","_law_marks","_law_first","_law_many","_law_k"] (yac zat) ["_law_pair"] ["_law_greatest"] [9] _) ⟨by rfl,by decide +kernel,by decide +kernel,by decide +kernel,by decide +kernel,by rfl,by decide +kernel⟩) rfl (@zaI _ _ _ _ (pv 8)) (fun cl C fp s H=>(0⊇["_law_pair","_law_greatest"])) (fun _ _ _ _ _=>(@zbE _ _ _ (ybJ∪((zd2 (K:=K) rfl)<<<(pv 0)<<<yab)∪(pv 1)))) (fun _ _ _ _ _=>(pv 0)) (by rfl) (by intro _;rfl) (by first|exact .inl rfl|exact .inr rfl|assumption))),zaC))<=<((zai<<<(pv 8)<<<(h__law_pick<$>((pv 0)>=>(yal>>>("len",PySem.boot_len,((pv 8)>=>zab)))>=>zab)))≈((10&&&yad.nd)∩((11&&&yad.nd)∩yax)))<=<(12<|>yad.nd<|>(@yam _ _ _ _ zab))<=<((ybJ∪(pv 2)∪yab)*>((~~~(12<|>yad.nd<|>((ybN rfl)<*("list",zbl,((@ydo _ _ _ _ _ rfl (B "range" (by decide)) ((pv 10)>=>zab) (by rfl))>=>zab))))),(~~~((ybJ∪(pv 2)∪yab)*>((~~~(12<|>yad.nd<|>(h__law_ring<$>((h__law_pick<$>((pv 0)>=>(pv 10)>=>zab))>=>(pv 10)>=>(pv 7)>=>zab)))),(~~~((zdP∪(pv 2)∪yab)*>(((@zbP _ _ 13 14 _ _ _ _ _ _ _ _ _ _ _ rfl yad.nd rfl rfl (by decide) rfl rfl ((h__law_pick<$>((pv 0)>=>(pv 10)>=>zab))>=>(h__law_pick<$>((pv 0)>=>(pv 10)>=>zab))>=>zab) rfl (by rfl))<=<(~~~((↑((pv 14)>=>zab))<&>((15&&&yad.nd),(~~~((@PW.pt _ _ _ (@zgB _ _ _ _ _ _ _ (zdP∪(pv 2)∪yab) (@zfq _ _ _ _ (ybJ∪(h__law_pick<$>((pv 0)>=>yab>=>zab))∪yab))))*>((~~~(12<|>yad.nd<|>(ybU|||(pv 12)|||(h__law_ring<$>((zan|||(pv 13)|||(pv 15))>=>(pv 10)>=>(pv 7)>=>zab))))),zaC))))))),zaC))))))))<=<(~~~((@ybb _ _ _ _ _ ((pv 4)>=>(@ybb _ _ _ _ _ (((pv 4)⊃zax)>=>(pv 6)>=>(pv 11)>=>(zav<*("tuple",yau,((@zex _ _ _ _ _ _ _ rfl rfl (B "sorted" (by decide)) rfl (B "set" (by decide)) (pv 12) (by rfl) (by rfl))>=>zab)))>=>zab))>=>zab))⁻¹))),?_⟩
  refine ⟨_,rfl,pu,g,6,rfl,hP,by lia,by lia,fun way H1 hway hP1 sx1=>?_⟩
  refine ⟨_,rfl,pu,g,3,rfl,hP1,by lia,by lia,fun far H2 hfar hP2 sx2=>?_⟩
  refine ⟨_,_,rfl,?_⟩
  refine ⟨_,rfl,pu,g,rfl,hP2,fun fa p m t H3 nf1 nf2 nf ef G hP3 sx3=>?_⟩
  refine ⟨fa,p,m,t,rfl,ef,G,fun tb pa la b H4 ntb npa nla T4 s4=>?_⟩
  have hP4:=hP3.same s4
  have ap:yfO pu g tb fa pa la:=⟨(hP3.lt ntb).1,(hP3.lt ntb).2,nf1,nf2,(hP3.lt npa).1,(hP3.lt npa).2,(hP3.lt nla).1,(hP3.lt nla).2⟩
  have sx4:=(sx1.trans (sx2.trans sx3)).trans (Same.x s4)
  have hp:=G.hp
  have hm:=G.hm
  have hQ:=G.hq
  have hQ2:=zas hp hm
  have hm6:=m_le hp hQ
  refine ⟨_,rfl,tb,_,rfl,T4.get zgY,_,_,rfl,rfl,?_⟩
  refine ⟨1,((m+1:Nat):Int),rfl,by lia,?_⟩
  refine yak ybA (fun k acc H'=>H'=H4∧∃fs:List Nat,acc=fs.map Vn∧(∀f∈fs,1≤f∧m%f=0)∧fs.length≤k∧(0<k→0<fs.length)) ⟨rfl,([]:List Nat),rfl,fun f hf=>absurd hf (by simp),Nat.le_refl _,fun h=>absurd h (Nat.lt_irrefl _)⟩ (fun _ _ _ _ _=>trivial) ?_ ?_ ?_
  · rintro k acc H' hk ⟨_,fs,rfl,_,hl,_⟩
    rw [List.length_map];exact zaf (by lia)
  · rintro k acc x H' H'' hk ⟨rfl,fs,rfl,hfs,hl,h0⟩ ⟨rfl,rfl⟩
    refine ⟨_,rfl,tb,_,rfl,T4.get zgY,_,rfl,_,_,rfl,rfl,by show (0:Int)<1+(k:Int);lia,rfl,_,rfl,?_⟩
    have ed:decide (V.int ((m:Int)%(1+(k:Int)))=V.int 0)=decide (m%(1+k)=0):=by rw [show (1+(k:Int))=((1+k:Nat):Int) by lia];exact zfI _ _
    refine ite2 (fun c=>?_) (fun c=>?_)
    · have c1:m%(1+k)=0:=by rw [ed] at c;exact of_decide_eq_true c
      refine ⟨_,rfl,rfl,fs++[1+k],?_,?_,by simp;lia,fun _=>by simp⟩
      · rw [List.map_append,show V.int (1+(k:Int))=Vn (1+k) from yfk (by lia)];rfl
      · intro f hf
        rcases List.mem_append.mp hf with h|h
        · exact hfs f h
        · cases List.mem_singleton.mp h;exact ⟨by lia,c1⟩
    · refine ⟨rfl,fs,rfl,hfs,by lia,fun _=>?_⟩
      by_cases c0:k=0
      · subst c0
        refine absurd ?_ c
        rw [ed,decide_eq_true (by show m%1=0;exact Nat.mod_one m)]
      · exact h0 (by lia)
  rintro acc H5 ⟨rfl,fs,rfl,hfs,hfl,hf0⟩ fl hfl'
  have hfl2:fs.length≤m:=by lia
  have hf1:0<fs.length:=hf0 (by lia)
  have s5:=yaa hfl' (.lst (fs.map Vn))
  have T5:=T4.same s5
  have hP5:=hP4.same s5
  have nfl:=hP4.lt hfl'
  have e5:upd H5 fl (.lst (fs.map Vn)) fl=some (.lst (fs.map Vn)):=zaa
  have sx5:=sx4.trans (Same.x s5)
  dsimp only [yan]
  generalize upd H5 fl (.lst (fs.map Vn))=H5' at s5 T5 hP5 e5 sx5 ⊢
  refine ⟨_,rfl,_,rfl,_,rfl,fl,_,rfl,.inl (SqL.of e5),?_⟩
  refine ⟨pu,g,fs.length,by rw [List.length_map];rfl,hP5,hf1,by lia,fun fi H6 hfi hP6 sx6=>?_⟩
  have hfew:=hfs (fs.getD fi 0) (by
    have:=List.getElem_mem hfi
    rwa [show fs.getD fi 0=fs[fi] by simp [List.getD,hfi]])
  have e6:=sx6 _ _ nfl.1 nfl.2 e5
  have sx6':=sx5.trans sx6
  refine ⟨fl,_,_,Vn (fs.getD fi 0),rfl,rfl,SqL.of e6,zaW (yaQ hfi),?_⟩
  generalize fs.getD fi 0=few at hfew ⊢
  have hfewm:few≤m:=Nat.le_of_dvd (by lia) (Nat.dvd_of_mod_eq_zero hfew.2)
  have T6:=T5.x ap sx6
  dsimp only [yan]
  refine ⟨_,rfl,tb,_,rfl,T6.get zdU,_,rfl,p,few,rfl,p_le hp hm hQ,by lia,?_⟩
  have hqq:p^few≤64:=Nat.le_trans (Nat.pow_le_pow_right (by lia) hfewm) hQ
  dsimp only [yan]
  refine ⟨_,rfl,tb,_,rfl,T6.get zce,?_⟩
  refine ⟨1,((p^m:Nat):Int),rfl,by lia,?_⟩
  refine yak ybA (fun k acc H'=>Same H6 H'∧∃ts:List Addr,acc=ts.map V.ref∧ts.length=k∧(∀a∈ts,ya6 p m t H' a)∧(0<k→∃a∈ts,pn H' a=1)) ⟨Same.refl _,([]:List Addr),rfl,rfl,fun a ha=>absurd ha (by simp),fun h=>absurd h (Nat.lt_irrefl _)⟩ (fun _ _ _ _ _=>trivial) ?_ ?_ ?_
  · rintro k acc H' hk ⟨_,ts,rfl,hl,_⟩
    rw [List.length_map,hl];exact zaf (by lia)
  · rintro k acc x H' H'' hk ⟨s',ts,rfl,hl,hts,h1⟩ ⟨rfl,rfl⟩
    have hk2:1+k<p^m:=by lia
    refine ⟨_,rfl,_,rfl,tb,fa,pa,la,p,m,t,b,1+k,?_,T6.same s',by lia,hk2,fun n o hn=>?_⟩
    · rw [show (1+(k:Int))=((1+k:Nat):Int) by lia];rfl
    refine ⟨_,rfl,szl 2,fun a ha=>?_⟩
    have sn:=yaa ha (.tup [Vn n,.int (1+(k:Int))])
    have en:upd H'' a (.tup [Vn n,.int (1+(k:Int))]) a=some (.tup [Vn n,Vn (1+k)]):=by rw [zaa];congr 1
    refine ⟨s'.trans sn,ts++[a],by rw [List.map_append];rfl,by simp [hl],?_,?_⟩
    · intro a' ha'
      rcases List.mem_append.mp ha' with h|h
      · exact (hts a' h).same sn
      · cases List.mem_singleton.mp h
        exact ⟨n,1+k,en,o,hn,by lia,hk2⟩
    · intro _
      by_cases c0:k=0
      · subst c0
        refine ⟨a,by simp,?_⟩
        rw [yb0 en]
        have h2:=o.pos
        have h3:=o.le (k:=1) (by lia) (by rw [yb5 hp hm (by lia)])
        lia
      · obtain ⟨a',ha',e'⟩:=h1 (by lia)
        obtain ⟨n',x',hx',_⟩:=hts a' ha'
        exact ⟨a',List.mem_append_left _ ha',by rw [yb0 (sn _ _ hx'),←yb0 hx'];exact e'⟩
  rintro acc H7 ⟨s7,ts,rfl,htl,hts,hone⟩ rl hrl
  have htl2:ts.length=p^m-1:=by
    rw [htl,show ((p^m:Nat):Int)-1=((p^m-1:Nat):Int) by lia];rfl
  obtain ⟨a1,ha1,ea1⟩:=hone (by lia)
  have s7':=s7.trans (yaa hrl (.lst (ts.map V.ref)))
  have T7:=T6.same s7'
  have hP7:=hP6.same s7'
  have nrl:=(hP6.same s7).lt hrl
  have e7:upd H7 rl (.lst (ts.map V.ref)) rl=some (.lst (ts.map V.ref)):=zaa
  have hts7:∀a∈ts,ya6 p m t (upd H7 rl (.lst (ts.map V.ref))) a:=fun a ha=>(hts a ha).same (yaa hrl _)
  have ea7:pn (upd H7 rl (.lst (ts.map V.ref))) a1=1:=by
    obtain ⟨n',x',hx',_⟩:=hts a1 ha1
    rw [yb0 (yaa hrl _ _ _ hx'),←yb0 hx'];exact ea1
  have sx7:=sx6'.trans (Same.x s7')
  dsimp only [yan]
  generalize upd H7 rl (.lst (ts.map V.ref))=H8 at s7' T7 hP7 e7 hts7 ea7 sx7 ⊢
  refine ⟨_,rfl,rl,rfl,⟨_,SqL.of e7⟩,?_⟩
  refine yak (yaD (xs:=ts.map V.ref)) (fun k acc H'=>H'=H8∧acc=((ts.take k).filter fun a=>decide (pn H8 a≤most)).map V.ref) ⟨rfl,rfl⟩ (fun i acc H' _ h=>h.1 ▸ SqL.of e7) ?_ ?_ ?_
  · rintro k acc H' hk ⟨_,rfl⟩
    have:=List.length_filter_le (fun a=>decide (pn H8 a≤most)) (ts.take k)
    rw [List.length_take] at this
    rw [List.length_map];exact zaf (by lia)
  · rintro k acc z H' H'' hk ⟨rfl,rfl⟩ ⟨rfl,ez⟩
    obtain ⟨a,ea,rfl⟩:=ycZ ez
    obtain ⟨n,x,hx,_⟩:=hts7 a (List.mem_of_getElem? ea)
    refine ⟨_,rfl,a,_,_,Vn n,rfl,rfl,SqT.of hx,rfl,_,rfl,_,_,rfl,rfl,_,rfl,?_⟩
    rw [yaT ea,List.filter_append]
    refine ite2 (fun c=>?_) (fun c=>?_)
    · have c1:n≤most:=by have:=of_decide_eq_true c;lia
      refine ⟨_,rfl,rfl,?_⟩
      rw [List.map_append]
      simp [yb0 hx,c1]
    · have c1:¬ n≤most:=fun h=>c (decide_eq_true (by lia))
      refine ⟨rfl,?_⟩
      simp [yb0 hx,c1]
  rw [List.length_map]
  rintro acc H9 ⟨rfl,rfl⟩ r2 hr2
  rw [List.take_length]
  obtain ⟨us,hus⟩:∃us,us=ts.filter fun a=>decide (pn H9 a≤most):=⟨_,rfl⟩
  rw [←hus]
  have hu1:∀a∈us,ya6 p m t H9 a∧pn H9 a≤most:=fun a ha=>by
    rw [hus] at ha
    have:=List.mem_filter.mp ha
    exact ⟨hts7 a this.1,of_decide_eq_true this.2⟩
  have hu0:a1∈us:=by rw [hus];exact List.mem_filter.mpr ⟨ha1,decide_eq_true (by rw [ea7];exact hmost)⟩
  have hul:us.length≤63:=by
    have:=List.length_filter_le (fun a=>decide (pn H9 a≤most)) ts
    rw [←hus] at this
    lia
  clear hus
  have pk:∀ {H H':Hp},Same H H'→∀a,ya6 p m t H a→pn H' a=pn H a:=fun s a ⟨n,x,h,_⟩=>by rw [yb0 (s _ _ h),yb0 h]
  have s9:=yaa hr2 (.lst (us.map V.ref))
  have T9:=T7.same s9
  have hP9:=hP7.same s9
  have n2:=hP7.lt hr2
  have e9:upd H9 r2 (.lst (us.map V.ref)) r2=some (.lst (us.map V.ref)):=zaa
  have hu9:∀a∈us,ya6 p m t (upd H9 r2 (.lst (us.map V.ref))) a∧pn (upd H9 r2 (.lst (us.map V.ref))) a≤most:=fun a ha=>⟨(hu1 a ha).1.same s9,by rw [pk s9 a (hu1 a ha).1];exact (hu1 a ha).2⟩
  have sx9:=sx7.trans (Same.x s9)
  dsimp only [yan]
  generalize upd H9 r2 (.lst (us.map V.ref))=HA at s9 T9 hP9 e9 hu9 sx9 ⊢
  refine ⟨_,rfl,r2,rfl,⟨_,SqL.of e9⟩,?_⟩
  refine yak (yaD (xs:=us.map V.ref)) (fun k acc H'=>H'=HA∧acc=((us.take k).map (pn HA)).map Vn) ⟨rfl,rfl⟩ (fun i acc H' _ h=>h.1 ▸ SqL.of e9) ?_ ?_ ?_
  · rintro k acc H' hk ⟨_,rfl⟩
    rw [List.length_map,List.length_map,List.length_take];exact zaf (by lia)
  · rintro k acc z H' H'' hk ⟨rfl,rfl⟩ ⟨rfl,ez⟩
    obtain ⟨a,ea,rfl⟩:=ycZ ez
    obtain ⟨⟨n,x,hx,_⟩,_⟩:=hu9 a (List.mem_of_getElem? ea)
    refine ⟨_,rfl,a,_,_,Vn n,rfl,rfl,SqT.of hx,rfl,rfl,?_⟩
    rw [yaT ea,List.map_append,List.map_append,show [a].map (pn H'')=[n] by rw [List.map_singleton,yb0 hx]];rfl
  rw [List.length_map]
  rintro acc HB ⟨rfl,rfl⟩ gl' hgl'
  rw [List.take_length]
  refine ⟨gl',(us.map (pn HB)).map (fun n:Nat=>(n:Int)),rfl,SqL.of (by rw [mapI];exact zaa),by rw [List.length_map,List.length_map];exact List.length_pos_of_mem hu0,fun M hM1 hM2=>?_⟩
  obtain ⟨M,hM,rfl⟩:=List.mem_map.mp hM1
  obtain ⟨aM,haM,eM⟩:=List.mem_map.mp hM
  have sB:=yaa hgl' (.lst ((us.map (pn HB)).map Vn))
  have TB:=T9.same sB
  have hPB:=hP9.same sB
  have eB:=sB _ _ e9
  have huB:∀a∈us,ya6 p m t (upd HB gl' (.lst ((us.map (pn HB)).map Vn))) a∧pn (upd HB gl' (.lst ((us.map (pn HB)).map Vn))) a≤most:=fun a ha=>⟨(hu9 a ha).1.same sB,by rw [pk sB a (hu9 a ha).1];exact (hu9 a ha).2⟩
  have eMB:pn (upd HB gl' (.lst ((us.map (pn HB)).map Vn))) aM=M:=by rw [pk sB aM (hu9 aM haM).1];exact eM
  have sxB:=sx9.trans (Same.x sB)
  dsimp only [yan]
  generalize upd HB gl' (.lst ((us.map (pn HB)).map Vn))=HC at sB TB hPB eB huB eMB sxB ⊢
  change tSeq (tIfS _ _ _) _ _ _ _
  refine ya7 (fun σ H'=>∃(rr:Addr) (ws:List Addr),Same HC H'∧H' rr=some (.lst (ws.map V.ref))∧(rr≠pu∧rr≠g)∧0<ws.length∧ws.length≤63∧(∀a∈ws,ya6 p m t H' a∧pn H' a≤most)∧
    σ=[some (.ref pu),some (Vn most),some (Vn way),some (Vn far),some (.ref tb),some (.ref fl),some (Vn few),some (Vn (p^few)),some (.ref rr),some (Vn M),none,none,none,none,none,none]) ?_ ?_
  · rintro σ HE ⟨rr,ws,sE,eE,nrr,hw0,hw1,hws,rfl⟩
    have TE:=TB.same sE
    have hPE:=hPB.same sE
    have sxE:=sxB.trans (Same.x sE)
    refine ⟨_,rfl,_,rfl,_,rfl,rr,_,rfl,.inl (SqL.of eE),?_⟩
    refine ⟨pu,g,ws.length,by rw [List.length_map];rfl,hPE,hw0,by lia,fun wi HF hwi hPF sxF=>?_⟩
    have hwm:ws[wi]∈ws:=List.getElem_mem hwi
    obtain ⟨⟨n,root,hpr,ord,hnq,r0,rq⟩,hmo⟩:=hws _ hwm
    rw [yb0 hpr] at hmo
    have npr:=hPE.tup_ne hpr
    have hprF:=sxF _ _ npr.1 npr.2 hpr
    have eF:=sxF _ _ nrr.1 nrr.2 eE
    have TF:=TE.x ap sxF
    have sxF':=sxE.trans sxF
    have hn0:=ord.pos
    refine ⟨rr,_,_,.ref ws[wi],rfl,rfl,SqL.of eF,zaW (by rw [List.getElem?_map,List.getElem?_eq_getElem hwi];rfl),?_⟩
    refine ⟨ws[wi],_,rfl,SqT.of hprF,rfl,_,_,rfl,_,_,rfl,rfl,?_⟩
    refine ⟨szl 0,fun m0 hm0=>?_⟩
    have sG:=yaa hm0 (.lst [])
    have hPG:=hPF.same sG
    have nm0:=hPF.lt hm0
    have eG:upd HF m0 (.lst []) m0=some (.lst (([]:List Nat).map Vn)):=zaa
    have TG:=TF.same sG
    have sxG:=sxF'.trans (Same.x sG)
    dsimp only [yan]
    generalize upd HF m0 (.lst [])=HG at sG hPG eG TG sxG ⊢
    have hrnd:=Ord.round G r0 rq ord hfew.2 hfew.1
    have hme:1≤m/few:=Nat.div_pos hfewm hfew.1
    have hme2:m/few≤6:=Nat.le_trans (Nat.div_le_self _ _) hm6
    change tSeq (tIfS _ _ _) _ _ _ _
    refine ya7 (fun σ H'=>Pu H' pu g∧yaj pu g HG H'∧∃(ml:Addr) (ns:List Nat) (s13 s14 s15:Option V),H' ml=some (.lst (ns.map Vn))∧(ml≠pu∧ml≠g)∧ns.length≤400∧(∀x∈ns,x<n)∧(∀x∈ns,x*p^few%n∈ns)∧
      σ=[some (.ref pu),some (Vn most),some (Vn way),some (Vn far),some (.ref tb),some (.ref fl),some (Vn few),some (Vn (p^few)),some (.ref rr),some (Vn M),some (Vn n),some (Vn root),some (.ref ml),s13,s14,s15]) ?_ ?_
    · rintro σ HI ⟨hPI,sxI,ml,ns,s13,s14,s15,eI,nml,hnl,hnn,hnc,rfl⟩
      have TI:=TG.x ap sxI
      refine ⟨_,rfl,_,rfl,tb,_,rfl,TI.get zfu,_,rfl,_,rfl,_,rfl,ml,ns.map (fun n:Nat=>(n:Int)),rfl,SqL.of (by rw [mapI];exact eI),by rw [List.length_map];lia,?_,?_⟩
      · intro ks hks hsub
        have:=zcn (τ:=(List.range n).map fun i:Nat=>(i:Int)) hks fun k hk=>by
          obtain ⟨x,hx,rfl⟩:=List.mem_map.mp (hsub k hk)
          exact List.mem_map.mpr ⟨x,List.mem_range.mpr (hnn x hx),rfl⟩
        rw [List.length_map,List.length_range] at this
        lia
      · intro l2 ns' hl2 hasc hmem
        obtain ⟨marks,hmk⟩:∃marks:List Nat,ns'=marks.map fun x:Nat=>(x:Int):=by
          refine ⟨ns'.map Int.toNat,?_⟩
          rw [List.map_map]
          conv=>lhs;rw [←List.map_id ns']
          refine List.map_congr_left fun k hk=>?_
          obtain ⟨x,_,rfl⟩:=List.mem_map.mp ((hmem k).mp hk)
          rfl
        subst hmk
        have hmm:∀x:Nat,x∈marks↔x∈ns:=fun x=>by
          have:=hmem (x:Int)
          constructor
          · intro h
            obtain ⟨y,hy,e⟩:=List.mem_map.mp (this.mp (List.mem_map_of_mem h))
            rw [←Int.ofNat.inj e];exact hy
          · intro h
            obtain ⟨y,hy,e⟩:=List.mem_map.mp (this.mpr (List.mem_map_of_mem h))
            rw [←Int.ofNat.inj e];exact hy
        have hasc2:marks.Pairwise (· < ·):=by
          rw [List.pairwise_map] at hasc
          exact hasc.imp fun h=>by lia
        rw [mapI]
        have s2:=yaa hl2 (.lst (marks.map Vn))
        refine ⟨l2,_,rfl,.inl ⟨SqL.of zaa,fun mk hmk=>?_⟩⟩
        have s3:=yaa hmk (.tup (marks.map Vn))
        refine ⟨szl 4,fun wh hwh=>?_⟩
        have s4':=yaa hwh (.tup [.ref fa,Vn few,Vn root,.ref mk])
        refine ⟨szl 2,fun r hr=>?_⟩
        have s5':=yaa hr (.tup [.ref tb,.ref wh])
        have hP2':=hPI.same s2
        have hP3':=hP2'.same s3
        have hP4':=hP3'.same s4'
        refine q r tb fa pa la wh mk p m t b few root n marks _ zaa ((((TI.same s2).same s3).same s4').same s5') ap ⟨s5' _ _ zaa,s5' _ _ (s4' _ _ zaa)⟩ (hP3'.lt hwh) (hP2'.lt hmk) (hP4'.lt hr) ⟨hfew.1,hfew.2,r0,rq,ord,hnq,hasc2,fun x hx=>hnn x ((hmm x).mp hx),fun x hx=>(hmm _).mpr (hnc x ((hmm x).mp hx))⟩ hmo (hP4'.same s5') ?_
        exact (sxG.trans sxI).trans (Same.x (((s2.trans s3).trans s4').trans s5'))
    · intro D' _ _ _ hD'
      refine ⟨_,rfl,rfl,_,rfl,?_⟩
      refine ite2 (fun c=>?_) (fun c=>?_)
      · refine ⟨_,rfl,(n:Int),rfl,fun rg hrg=>⟨rg,0,(n:Int),rfl,zaa,by lia,by rw [show ((n:Int)-0).toNat=n by lia];exact szl _ (by lia),fun l hl=>?_⟩⟩
        have s1':=yaa hrg (.rng 0 (n:Int))
        have e1:L2.intsFrom 0 ((n:Int)-0).toNat=(List.range n).map Vn:=by
          rw [show ((n:Int)-0).toNat=n by lia]
          unfold L2.intsFrom
          refine List.map_congr_left fun i _=>?_
          rw [Int.zero_add]
        rw [e1]
        have s2':=yaa hl (.lst ((List.range n).map Vn))
        exact hD' _ _ ⟨(hPG.same s1').same s2',Same.x (s1'.trans s2'),l,List.range n,_,_,_,zaa,(hPG.same s1').lt hl,by rw [List.length_range];lia,fun x hx=>List.mem_range.mp hx,fun x _=>List.mem_range.mpr (Nat.mod_lt _ (by lia)),rfl⟩
      · refine ⟨_,rfl,rfl,_,rfl,?_⟩
        refine ite2 (fun c=>?_) (fun c=>?_)
        · refine ⟨_,rfl,_,rfl,pu,g,n,rfl,hPG,by lia,by lia,fun i HJ hi hPJ sxJ=>?_⟩
          refine ⟨_,rfl,_,rfl,i,n,p^few,m/few,rfl,by lia,by lia,hqq,hme,hme2,hrnd,fun r ns HK sK nr er h1 h2 h3 h4 _ _ _=>?_⟩
          exact hD' _ _ ⟨hPJ.same sK,sxJ.trans (Same.x sK),r,ns,_,_,_,er,hPJ.lt nr,by lia,h3,h4,rfl⟩
        · refine ⟨_,rfl,_,_,rfl,rfl,_,rfl,?_⟩
          refine ite2 (fun c=>?_) (fun c=>?_)
          · refine ⟨_,rfl,_,rfl,pu,g,n,rfl,hPG,by lia,by lia,fun first HJ hfi hPJ sxJ=>?_⟩
            refine ⟨_,rfl,_,rfl,pu,g,n,rfl,hPJ,by lia,by lia,fun many HK hma hPK sxK=>?_⟩
            refine ⟨_,_,rfl,?_⟩
            refine ⟨_,rfl,many,rfl,by lia,by lia,?_⟩
            have eK:=sxK _ _ nm0.1 nm0.2 (sxJ _ _ nm0.1 nm0.2 eG)
            refine yaz (n:=many) (fun k σ H'=>Pu H' pu g∧yaj pu g HG H'∧∃(ml:Addr) (ns:List Nat) (s15:Option V),H' ml=some (.lst (ns.map Vn))∧(ml≠pu∧ml≠g)∧ns.length≤6*k∧(∀x∈ns,x<n)∧(∀x∈ns,x*p^few%n∈ns)∧
              σ=[some (.ref pu),some (Vn most),some (Vn way),some (Vn far),some (.ref tb),some (.ref fl),some (Vn few),some (Vn (p^few)),some (.ref rr),some (Vn M),some (Vn n),some (Vn root),some (.ref ml),some (Vn first),some (Vn many),s15])
              ⟨hPK,sxJ.trans sxK,m0,[],_,eK,nm0,by decide,fun x hx=>absurd hx (by simp),fun x hx=>absurd hx (by simp),rfl⟩ ?_ ?_
            · rintro k σ HL hk ⟨hPL,sxL,ml,ns,s15,eL,nml,hnl,hnn,hnc,rfl⟩
              have body:∀HM,Pu HM pu g→yaj pu g HL HM→∀Q:V→Hp→Prop,(∀l (ns':List Nat) H',Pu H' pu g→yaj pu g HG H'→H' l=some (.lst (ns'.map Vn))→(l≠pu∧l≠g)→ns'.length≤6*(k+1)→(∀x∈ns',x<n)→(∀x∈ns',x*p^few%n∈ns')→Q (.ref l) H')→
                  tOp rCat (tVar 12) (ygy zbT [] E0 (ycC (tOp (rI0 fun i j=>V.int (i+j)) (tVar 13) (tVar 15)) (ycC (tVar 10) (ycC (tVar 7) tNil)))) [some (.ref pu),some (Vn most),some (Vn way),some (Vn far),some (.ref tb),some (.ref fl),some (Vn few),some (Vn (p^few)),some (.ref rr),some (Vn M),some (Vn n),some (Vn root),some (.ref ml),some (Vn first),some (Vn many),some (.int (0+(k:Int)))] HM Q:=by
                intro HM hPM sxM Q hQ
                have eM:=sxM _ _ nml.1 nml.2 eL
                refine ⟨_,rfl,_,rfl,_,rfl,_,_,rfl,rfl,_,rfl,_,rfl,first+k,n,p^few,m/few,?_,by lia,by lia,hqq,hme,hme2,hrnd,fun r rs HN sN nr er h1 h2 h3 h4 _ _ _=>?_⟩
                · show [V.int ((first:Int)+(0+(k:Int))),Vn n,Vn (p^few)]=[Vn (first+k),Vn n,Vn (p^few)]
                  rw [show (first:Int)+(0+(k:Int))=((first+k:Nat):Int) by lia]
                refine ⟨ml,r,_,_,rfl,rfl,sN _ _ eM,er,by rw [List.length_map,List.length_map];exact szl _ (by lia),fun l hl=>?_⟩
                rw [←List.map_append]
                have sO:=yaa hl (.lst ((ns++rs).map Vn))
                refine hQ l (ns++rs) _ ((hPM.same sN).same sO) ((sxL.trans sxM).trans (Same.x (sN.trans sO))) zaa ((hPM.same sN).lt hl) (by rw [List.length_append];lia) (fun x hx=>?_) (fun x hx=>?_)
                · rcases List.mem_append.mp hx with h|h
                  · exact hnn x h
                  · exact h3 x h
                · rcases List.mem_append.mp hx with h|h
                  · exact List.mem_append_left _ (hnc x h)
                  · exact List.mem_append_right _ (h4 x h)
              refine ⟨_,rfl,_,_,rfl,rfl,_,rfl,?_⟩
              refine ite2 (fun c=>?_) (fun c=>?_)
              · refine ite2 (fun _=>?_) (fun h=>absurd rfl h)
                exact body HL hPL yaj.refl _ fun l ns' H' a1 a2 a3 a4 a5 a6 a7=>⟨a1,a2,l,ns',_,a3,a4,a5,a6,a7,rfl⟩
              · refine ⟨_,rfl,pu,g,3,rfl,hPL,by lia,by lia,fun v HM hv hPM sxM=>?_⟩
                refine ⟨rfl,_,rfl,?_⟩
                refine ite2 (fun _=>?_) (fun _=>?_)
                · exact body HM hPM sxM _ fun l ns' H' a1 a2 a3 a4 a5 a6 a7=>⟨a1,a2,l,ns',_,a3,a4,a5,a6,a7,rfl⟩
                · exact ⟨hPM,sxL.trans sxM,ml,ns,_,sxM _ _ nml.1 nml.2 eL,nml,by lia,hnn,hnc,rfl⟩
            · rintro σ HL ⟨hPL,sxL,ml,ns,s15,eL,nml,hnl,hnn,hnc,rfl⟩
              exact hD' _ _ ⟨hPL,sxL,ml,ns,_,_,_,eL,nml,by lia,hnn,hnc,rfl⟩
          · exact hD' _ _ ⟨hPG,yaj.refl,m0,[],_,_,_,eG,nm0,by decide,fun x hx=>absurd hx (by simp),fun x hx=>absurd hx (by simp),rfl⟩
  · intro D' _ _ _ hD'
    refine ⟨_,rfl,_,_,rfl,rfl,_,rfl,?_⟩
    refine ite2 (fun c=>?_) (fun c=>?_)
    · refine ⟨_,rfl,r2,rfl,⟨_,SqL.of eB⟩,?_⟩
      refine yak (yaD (xs:=us.map V.ref)) (fun k acc H'=>H'=HC∧acc=((us.take k).filter fun a=>decide (pn HC a=M)).map V.ref) ⟨rfl,rfl⟩ (fun i acc H' _ h=>h.1 ▸ SqL.of eB) ?_ ?_ ?_
      · rintro k acc H' hk ⟨_,rfl⟩
        have:=List.length_filter_le (fun a=>decide (pn HC a=M)) (us.take k)
        rw [List.length_take] at this
        rw [List.length_map];exact zaf (by lia)
      · rintro k acc z H' H'' hk ⟨rfl,rfl⟩ ⟨rfl,ez⟩
        obtain ⟨a,ea,rfl⟩:=ycZ ez
        obtain ⟨⟨n,x,hx,_⟩,_⟩:=huB a (List.mem_of_getElem? ea)
        refine ⟨_,rfl,a,_,_,Vn n,rfl,rfl,SqT.of hx,rfl,_,rfl,rfl,_,rfl,?_⟩
        have ed:decide (Vn n=Vn M)=decide (n=M):=decide_eq_decide.mpr ⟨fun e=>Int.ofNat.inj (V.int.inj e),fun e=>by rw [e]⟩
        rw [yaT ea,List.filter_append,ed]
        refine ite2 (fun c=>?_) (fun c=>?_)
        · have c1:n=M:=of_decide_eq_true c
          refine ⟨_,rfl,rfl,?_⟩
          rw [List.map_append]
          simp [yb0 hx,c1]
        · have c1:¬ n=M:=fun h=>c (decide_eq_true h)
          refine ⟨rfl,?_⟩
          simp [yb0 hx,c1]
      rw [List.length_map]
      rintro acc HD ⟨rfl,rfl⟩ r3 hr3
      rw [List.take_length]
      have s3:=yaa hr3 (.lst ((us.filter fun a=>decide (pn HD a=M)).map V.ref))
      refine hD' _ _ ⟨r3,us.filter fun a=>decide (pn HD a=M),s3,zaa,hPB.lt hr3,?_,?_,?_,rfl⟩
      · exact List.length_pos_of_mem (List.mem_filter.mpr ⟨haM,decide_eq_true eMB⟩)
      · exact Nat.le_trans (List.length_filter_le _ _) hul
      · intro a ha
        have h1:=huB a (List.mem_filter.mp ha).1
        exact ⟨h1.1.same s3,by rw [pk s3 a h1.1];exact h1.2⟩
    · exact hD' _ _ ⟨r2,us,Same.refl _,eB,n2,List.length_pos_of_mem hu0,hul,huB,rfl⟩
end
end My
end
section
-- text: PN
set_option Elab.async false
set_option linter.all false
set_option maxRecDepth 100000
set_option maxHeartbeats 4000000
namespace L2
open PySem PyProof.Rows
end L2
namespace My
open PySem L2 Dg
local macro_rules | `(tactic| walk_at "rd") => `(tactic| repeat (first | refine ⟨_, rfl, ?_⟩ | refine ⟨_, _, rfl, rfl, ?_⟩))
section
variable {P:Program} {w:World} {K:PySem.W.Frag} {mg:Str→Option Value} {base:Heap} {f:Addr} {fd:FuncData}
theorem ydu (x:Nat) (marks:List Nat):inV (Vn x) (marks.map Vn)=decide (x∈marks):=by
  unfold inV
  rw [List.any_map]
  rw [Bool.eq_iff_iff,List.any_eq_true,decide_eq_true_eq]
  constructor
  · rintro ⟨y,hy,h⟩
    have:((y:Int)==(x:Int))=true:=h
    rw [←Int.ofNat.inj (eq_of_beq this)];exact hy
  · intro h
    exact ⟨x,h,beq_self_eq_true ((x:Nat):Int)⟩
theorem ycE (marks:List Nat):(marks.map Vn).all ycR=true:=by
  rw [List.all_eq_true]
  intro v hv
  obtain ⟨x,_,rfl⟩:=List.mem_map.mp hv
  rfl
end
end My
end
section
-- text: PG
set_option Elab.async false
set_option linter.all false
set_option maxRecDepth 100000
set_option maxHeartbeats 4000000
namespace My
open PySem L2 Dg
local macro_rules | `(tactic| walk_at "rd") => `(tactic| repeat (first | refine ⟨_, rfl, ?_⟩ | refine ⟨_, _, rfl, rfl, ?_⟩))
end My
end
section
-- text: PK
set_option Elab.async false
set_option linter.all false
set_option maxRecDepth 100000
set_option maxHeartbeats 4000000
namespace My
open PySem L2 Dg
local macro_rules | `(tactic| walk_at "rd") => `(tactic| repeat (first | refine ⟨_, rfl, ?_⟩ | refine ⟨_, _, rfl, rfl, ?_⟩))
theorem zdZ {marks:List Nat} {n:Nat} (h:marks.Pairwise (· < ·)) (hl:∀x∈marks,x<n):marks.length≤n:=by
  have:=zcn (σ:=marks) (τ:=List.range n) (h.imp fun h=>by lia) fun x hx=>List.mem_range.mpr (hl x hx)
  rwa [List.length_range] at this
end My
end
section
-- text: PL
set_option Elab.async false
set_option linter.all false
set_option maxRecDepth 100000
set_option maxHeartbeats 4000000
namespace My
open PySem L2 Dg
local macro_rules | `(tactic| walk_at "rd") => `(tactic| repeat (first | refine ⟨_, rfl, ?_⟩ | refine ⟨_, _, rfl, rfl, ?_⟩))
noncomputable def lets (p m t few:Nat):List Nat:=(List.range (p^m)).filter fun x=>decide (pw p m t x (p^few)=x)
theorem zao {p m t few:Nat}:∀x∈lets p m t few,x<p^m:=fun x hx=>List.mem_range.mp (List.mem_filter.mp hx).1
section
variable {P:Program} {w:World} {K:PySem.W.Frag} {mg:Str→Option Value} {base:Heap} {f:Addr} {fd:FuncData}
inductive zbJ (vs:List V) (H:Hp) (Q:VK) (E:XK):Prop
  | mk (tb fa pa la:Addr) (p m t b few:Nat) (c1:vs=[.ref tb,Vn few]) (c2:Tab H tb fa pa la p m t b) (c3:few≤6) (c4:∀r H',Same H H'→H r=none→H' r=some (.lst ((lets p m t few).map Vn))→Q (.ref r) H'):zbJ vs H Q E
noncomputable def mkS (p m t r:Nat) (row:List Nat):List Nat:=(List.range (row.length+1)).map fun i=>sub p m ((0::row).getD i 0) (mul p m t r ((row++[0]).getD i 0))
noncomputable def mkL (p m t root:Nat) (marks:List Nat):List Nat:=marks.foldl (fun row k=>mkS p m t (pw p m t root k) row) [1]
theorem ycu (p m t r:Nat) (row:List Nat):(mkS p m t r row).length=row.length+1:=by simp [mkS]
theorem zfp (p m t root:Nat):∀(marks row:List Nat),(marks.foldl (fun row k=>mkS p m t (pw p m t root k) row) row).length=row.length+marks.length
  | [],row=>rfl
  | k::marks,row=>by rw [List.foldl_cons,zfp p m t root marks,ycu,List.length_cons];lia
theorem yaU (p m t root:Nat) (marks:List Nat):(mkL p m t root marks).length=marks.length+1:=by unfold mkL;rw [zfp];simp;lia
theorem zff {p m t r:Nat} (G:Good p m t) {row:List Nat}:∀x∈mkS p m t r row,x<p^m:=fun x hx=>by
  obtain ⟨i,_,rfl⟩:=List.mem_map.mp hx
  exact ybj G.hp G.hm _ _
theorem yf9 {p m t root:Nat} (G:Good p m t):∀(marks row:List Nat),(∀x∈row,x<p^m)→∀x∈marks.foldl (fun row k=>mkS p m t (pw p m t root k) row) row,x<p^m
  | [],row,h=>h
  | k::marks,row,h=>by rw [List.foldl_cons];exact yf9 G marks _ (zff G)
theorem ycm {p m t root:Nat} (G:Good p m t) (marks:List Nat):∀x∈mkL p m t root marks,x<p^m:=yf9 G marks [1] fun x hx=>by rw [List.mem_singleton.mp hx];exact zas G.hp G.hm
theorem zfX {p m t root:Nat} {marks:List Nat} {i k:Nat} (h:marks[i]?=some k):mkL p m t root (marks.take (i+1))=mkS p m t (pw p m t root k) (mkL p m t root (marks.take i)):=by
  unfold mkL;rw [yaT h,List.foldl_append];rfl
inductive zci (vs:List V) (H:Hp) (Q:VK) (E:XK):Prop
  | mk (tb fa pa la wh mk:Addr) (p m t b few root:Nat) (marks:List Nat) (c1:vs=[.ref tb,.ref wh]) (c2:Tab H tb fa pa la p m t b) (c3:WhAt H wh fa mk few root marks) (c4:root<p^m) (c5:marks.length≤64) (c6:∀r H',Same H H'→H r=none→H' r=some (.lst ((mkL p m t root marks).map Vn))→Q (.ref r) H'):zci vs H Q E
end
end My
end
section
-- text: PM
set_option Elab.async false
set_option linter.all false
set_option maxRecDepth 100000
set_option maxHeartbeats 4000000
namespace My
open PySem L2 Dg
local macro_rules | `(tactic| walk_at "rd") => `(tactic| repeat (first | refine ⟨_, rfl, ?_⟩ | refine ⟨_, _, rfl, rfl, ?_⟩))
end My
end
section
-- text: PT
set_option Elab.async false
set_option linter.all false
set_option maxRecDepth 100000
set_option maxHeartbeats 4000000
namespace My
open PySem L2 Dg
section
variable {p m t:Nat}
section
variable (hp:2≤p) (hm:1≤m)
include hp hm
theorem zc7 (n:Nat):sumF p m n (fun _=>0)=0:=by
  have:=ybf hp hm (fun _=>0) 0 n fun _ _ _=>rfl
  rw [Nat.zero_add] at this
  exact this
theorem zel (a b:Nat) (f:Nat→Nat→Nat):sumF p m a (fun i=>sumF p m b fun j=>f i j)=sumF p m b (fun j=>sumF p m a fun i=>f i j):=by
  induction a with
  | zero=>exact (zc7 hp hm b).symm
  | succ a ih =>
    show add p m (sumF p m a fun i=>sumF p m b fun j=>f i j) (sumF p m b fun j=>f a j)=sumF p m b fun j=>add p m (sumF p m a fun i=>f i j) (f a j)
    rw [ih,zb2 hp hm]
theorem zfe (f:Nat→Nat) {a:Nat} (ha:f a<p^m) (h0:∀i,i≠a→f i=0):∀n,a<n→sumF p m n f=f a
  | 0,h=>absurd h (by lia)
  | n+1,h=>by
    show add p m (sumF p m n f) (f n)=f a
    by_cases e:a=n
    · subst e
      have z:=ybf hp hm f 0 a fun i _ h2=>h0 i (by lia)
      rw [Nat.zero_add] at z
      rw [z]
      exact zero_add hp hm ha
    · rw [zfe f ha h0 n (by lia),h0 n (by lia),add_zero hp hm ha]
theorem zaB {x y c:Nat} (hx:x<p^m) (hy:y<p^m) (h:add p m x c=add p m y c):x=y:=by
  rw [←zbr hp hm (y:=c) hx,h,zbr hp hm hy]
theorem yfX (n:Nat):sumF p m n (fun _=>1)=n%p:=by
  induction n with
  | zero=>rfl
  | succ n ih =>
    show add p m (sumF p m n fun _=>1) 1=_
    rw [ih]
    have hlt:∀k,k%p<p:=fun k=>Nat.mod_lt _ (by lia)
    have hpm:p≤p^m:=Nat.le_self_pow (by lia) p
    refine ybi hp (ya2 hp hm _ _) (Nat.lt_of_lt_of_le (hlt _) hpm) fun i hi=>?_
    rw [zbj hp hm _ _ _ hi,ygc hp hm]
    have hdg:∀x,x<p→dg p i x=if i=0 then x else 0:=fun x hx=>by
      cases i with
      | zero=>rw [if_pos rfl];unfold dg;rw [Nat.pow_zero,Nat.div_one,Nat.mod_eq_of_lt hx]
      | succ i =>
        rw [if_neg (by lia)]
        unfold dg
        rw [Nat.div_eq_of_lt (Nat.lt_of_lt_of_le hx (Nat.le_self_pow (by lia) p)),Nat.zero_mod]
    rw [hdg _ (hlt _),hdg _ (hlt _)]
    unfold zbF
    by_cases h0:i=0
    · rw [if_pos h0,if_pos h0,if_pos h0,Nat.mod_add_mod]
    · rw [if_neg h0,if_neg h0,if_neg h0,Nat.add_zero,Nat.zero_mod]
end
variable (G:Good p m t)
include G
theorem geom {z n:Nat} (hz:z<p^m) (h1:pw p m t z n=1) (hne:z≠1):sumF p m n (pw p m t z)=0:=by
  have hp:=G.hp
  have hm:=G.hm
  have hS:sumF p m n (pw p m t z)<p^m:=ybT hp hm _ _
  have ef:=ybV hp hm (f:=pw p m t z) (fun i=>zaA hp hm _ _) n
  have eg:sumF p m (n+1) (pw p m t z)=add p m (sumF p m n (pw p m t z)) 1:=by
    show add p m (sumF p m n (pw p m t z)) (pw p m t z n)=_
    rw [h1]
  have es:sumF p m n (fun i=>pw p m t z (i+1))=mul p m t (sumF p m n (pw p m t z)) z:=by
    rw [←zaQ hp hm];rfl
  rw [eg,es] at ef
  have e0:pw p m t z 0=1:=rfl
  rw [e0,add_comm hp hm 1] at ef
  have e1:mul p m t (sumF p m n (pw p m t z)) z=sumF p m n (pw p m t z):=(zaB hp hm hS (zap hp hm _ _) ef).symm
  have ez:z=add p m (sub p m z 1) 1:=(yaF hp hm hz).symm
  generalize sumF p m n (pw p m t z)=S at hS e1 ⊢
  rw [ez,mul_add hp hm,mul_one hp hm hS] at e1
  have e2:mul p m t S (sub p m z 1)=0:=by
    refine zaB hp hm (c:=S) (zap hp hm _ _) (zah hp hm) ?_
    rw [e1,zero_add hp hm hS]
  rcases Nat.eq_zero_or_pos S with h|h
  · exact h
  · rcases Nat.eq_zero_or_pos (sub p m z 1) with h2|h2
    · rw [h2,zero_add hp hm (zas hp hm)] at ez
      exact absurd ez hne
    · have:=G.noz h hS h2 (ybj hp hm _ _)
      lia
theorem zho {x n:Nat} (h0:0<x) (hx:x<p^m) (o:Ord p m t x n):n%p≠0:=by
  have hp:=G.hp
  have hm:=G.hm
  have h1:=o.dvd G hx (G.fermat h0 hx)
  intro h2
  have d1:p ∣ p^m-1:=Nat.dvd_trans (Nat.dvd_of_mod_eq_zero h2) (Nat.dvd_of_mod_eq_zero h1)
  have d2:p ∣ p^m:=Nat.dvd_trans (by rw [Nat.pow_one];exact Nat.dvd_refl p) (Nat.pow_dvd_pow p hm)
  have d3:=Nat.dvd_sub d2 d1
  have:=zas hp hm
  rw [show p^m-(p^m-1)=1 by lia] at d3
  have:=Nat.le_of_dvd (by lia) d3
  lia
theorem Ord.inv {r s n:Nat} (hr:r<p^m) (hs:s<p^m) (e:mul p m t s r=1) (o:Ord p m t r n):Ord p m t s n:=by
  have hp:=G.hp
  have hm:=G.hm
  have key:∀i,pw p m t s i=1↔pw p m t r i=1:=fun i=>by
    have:=ybo (t:=t) hp hm s r i
    rw [e,yaY hp hm] at this
    constructor
    · intro h;rw [h,one_mul hp hm (zaA hp hm _ _)] at this;exact this.symm
    · intro h;rw [h,mul_one hp hm (zaA hp hm _ _)] at this;exact this.symm
  exact ⟨o.pos,(key n).mpr o.one,fun i h1 h2 h=>o.min i h1 h2 ((key i).mp h)⟩
theorem orth {r s n k j:Nat} (hr:r<p^m) (hs:s<p^m) (e:mul p m t s r=1) (o:Ord p m t r n) (hk:k<n) (hj:j<n):sumF p m n (fun i=>mul p m t (pw p m t r (i*k)) (pw p m t s (i*j)))=if k=j then n%p else 0:=by
  have hp:=G.hp
  have hm:=G.hm
  have h1:=zas hp hm
  have es:∀i,mul p m t (pw p m t s i) (pw p m t r i)=1:=fun i=>by rw [←ybo hp hm,e,yaY hp hm]
  have et:∀i,mul p m t (pw p m t r (i*k)) (pw p m t s (i*j))=pw p m t (mul p m t (pw p m t r k) (pw p m t s j)) i:=fun i=>by
    rw [Nat.mul_comm i k,Nat.mul_comm i j,zaE hp hm,zaE hp hm,ybo hp hm]
  rw [yaf hp hm n fun i _=>et i]
  by_cases c:k=j
  · subst c
    rw [if_pos rfl,mul_comm hp hm (pw p m t r k),es]
    rw [yaf hp hm n fun i _=>yaY hp hm i]
    exact yfX hp hm n
  · rw [if_neg c]
    refine geom G (zap hp hm _ _) ?_ ?_
    · have os:=o.inv G hr hs e
      rw [ybo hp hm,←zaE hp hm,←zaE hp hm,Nat.mul_comm k n,Nat.mul_comm j n,zaE hp hm,zaE hp hm,o.one,os.one,yaY hp hm,yaY hp hm,mul_one hp hm h1]
    · intro hz
      have hkj:pw p m t r k=pw p m t r j:=by
        have:=congrArg (fun z=>mul p m t z (pw p m t r j)) hz
        rw [mul_assoc hp hm,es,mul_one hp hm (zaA hp hm _ _),one_mul hp hm (zaA hp hm _ _)] at this
        exact this
      have inj:∀a b,a<b→b<n→pw p m t r a=pw p m t r b→False:=fun a b hab hb h=>by
        refine o.min (b-a) (by lia) (by lia) ?_
        have h2:=za2 (t:=t) hp hm r a (b-a)
        rw [show a+(b-a)=b by lia,←h] at h2
        have h3:=congrArg (fun z=>mul p m t (pw p m t s a) z) h2
        rw [es,←mul_assoc hp hm,es,one_mul hp hm (zaA hp hm _ _)] at h3
        exact h3.symm
      rcases Nat.lt_or_ge k j with h|h
      · exact inj k j h hj hkj
      · exact inj j k (by lia) hk hkj.symm
omit G in
theorem rget {n:Nat} {f:Nat→Nat} {i:Nat} (h:i<n):((List.range n).map f).getD i 0=f i:=by
  rw [List.getD_eq_getElem?_getD,List.getElem?_map,List.getElem?_range h];rfl
end
end My
end
section
-- text: PU
set_option Elab.async false
set_option linter.all false
set_option maxRecDepth 100000
set_option maxHeartbeats 4000000
namespace My
open PySem L2 Dg
noncomputable def dot (p m t:Nat) (xs ys:List Nat):Nat:=sumF p m (min xs.length ys.length) fun i=>mul p m t (xs.getD i 0) (ys.getD i 0)
noncomputable def padL (a b:Nat) (row:List Nat):List Nat:=List.replicate a 0++row++List.replicate b 0
theorem ygN (a b:Nat) (row:List Nat):(padL a b row).length=a+row.length+b:=by simp [padL];lia
section
variable {p m t:Nat} (G:Good p m t)
include G
theorem zgH {x r:Nat} {row:List Nat} (hx:x<p^m) (hr:∀y∈row,y<p^m):add p m (val p m t x (mkS p m t r row)) (mul p m t r (val p m t x row))=mul p m t (val p m t x row) x:=by
  have hp:=G.hp
  have hm:=G.hm
  have h0:=zah hp hm
  have hA:∀i,(0::row).getD i 0<p^m:=fun i=>by
    cases i with
    | zero=>exact h0
    | succ i =>
      rw [List.getD_cons_succ]
      rcases Nat.lt_or_ge i row.length with h|h
      · exact zbn hr h
      · rw [zau h];exact h0
  rw [zaJ hp hm hx _ (zff G),ycu,zaJ hp hm hx row hr]
  have e1:(sumF p m (row.length+1) fun k=>mul p m t ((mkS p m t r row).getD k 0) (pw p m t x k))=sumF p m (row.length+1) fun k=>mul p m t (sub p m ((0::row).getD k 0) (mul p m t r ((row++[0]).getD k 0))) (pw p m t x k):=by
    refine yaf hp hm _ fun k hk=>?_
    rw [show (mkS p m t r row).getD k 0=_ from rget hk]
  have e2:mul p m t r (sumF p m row.length fun k=>mul p m t (row.getD k 0) (pw p m t x k))=sumF p m (row.length+1) fun k=>mul p m t (mul p m t r ((row++[0]).getD k 0)) (pw p m t x k):=by
    rw [ybf hp hm _ row.length 1 fun i h1 h2=>by
      have:i=row.length:=by lia
      subst this
      have e:(row++[0]).getD row.length 0=0:=by simp [List.getD]
      rw [e,mul_zero hp hm,zero_mul hp hm],mul_comm hp hm,←zaQ hp hm]
    refine yaf hp hm _ fun k hk=>?_
    have e:(row++[0]).getD k 0=row.getD k 0:=by simp [List.getD,List.getElem?_append,hk]
    rw [e,mul_comm hp hm r,mul_assoc hp hm,mul_assoc hp hm,mul_comm hp hm r]
  have e3:mul p m t (sumF p m row.length fun k=>mul p m t (row.getD k 0) (pw p m t x k)) x=sumF p m (row.length+1) fun k=>mul p m t ((0::row).getD k 0) (pw p m t x k):=by
    rw [ybV hp hm (f:=fun k=>mul p m t ((0::row).getD k 0) (pw p m t x k)) (fun i=>zap hp hm _ _)]
    rw [show (0::row).getD 0 0=0 from rfl,zero_mul hp hm,zero_add hp hm (ybT hp hm _ _),←zaQ hp hm]
    refine yaf hp hm _ fun k _=>?_
    rw [List.getD_cons_succ,mul_assoc hp hm];rfl
  rw [e1,e2,e3,←zb2 hp hm]
  refine yaf hp hm _ fun k _=>?_
  rw [←add_mul hp hm,yaF hp hm (hA k)]
theorem yek {root x:Nat} (hx:x<p^m):∀(marks row:List Nat),(∀y∈row,y<p^m)→(val p m t x row=0∨∃k∈marks,x=pw p m t root k)→val p m t x (marks.foldl (fun row k=>mkS p m t (pw p m t root k) row) row)=0
  | [],row,_,h=>by
    rcases h with h | ⟨k,hk,_⟩
    · exact h
    · cases hk
  | k::ms,row,hr,h=>by
    have hp:=G.hp
    have hm:=G.hm
    rw [List.foldl_cons]
    have key:=zgH G (r:=pw p m t root k) hx hr
    refine yek hx ms _ (zff G) ?_
    by_cases c:val p m t x row=0∨x=pw p m t root k
    · left
      refine zaB hp hm (c:=mul p m t (pw p m t root k) (val p m t x row)) (zbR hp hm _ _) (zah hp hm) ?_
      rw [key,zero_add hp hm (zap hp hm _ _)]
      rcases c with c|c
      · rw [c,zero_mul hp hm,mul_zero hp hm]
      · rw [←c,mul_comm hp hm]
    · right
      rcases h with h | ⟨k',hk',e⟩
      · exact absurd (.inl h) c
      · rcases List.mem_cons.mp hk' with h1|h1
        · exact absurd (.inr (h1 ▸ e)) c
        · exact ⟨k',h1,e⟩
theorem yca {root k:Nat} {marks:List Nat} (h:k∈marks):val p m t (pw p m t root k) (mkL p m t root marks)=0 :=
  yek G (zaA G.hp G.hm _ _) marks [1] (fun y hy=>by rw [List.mem_singleton.mp hy];exact zas G.hp G.hm) (.inr ⟨k,h,rfl⟩)
theorem zc6 {x:Nat} (a b:Nat) {row:List Nat} (h:val p m t x row=0):val p m t x (padL a b row)=0:=by
  have hp:=G.hp
  have hm:=G.hm
  have z0:add p m (mul p m t 0 x) 0=0:=by rw [zero_mul hp hm,add_zero hp hm (zah hp hm)]
  have z1:∀b,val p m t x (List.replicate b 0)=0:=fun b=>by
    induction b with
    | zero=>rfl
    | succ b ih =>
      rw [List.replicate_succ]
      show add p m (mul p m t (val p m t x (List.replicate b 0)) x) 0=0
      rw [ih];exact z0
  have z2:∀l:List Nat,val p m t x (l++List.replicate b 0)=val p m t x l:=fun l=>by
    induction l with
    | nil=>exact z1 b
    | cons y l ih =>
      show add p m (mul p m t (val p m t x (l++List.replicate b 0)) x) y=add p m (mul p m t (val p m t x l) x) y
      rw [ih]
  unfold padL
  rw [z2]
  induction a with
  | zero=>exact h
  | succ a ih =>
    rw [List.replicate_succ]
    show add p m (mul p m t (val p m t x (List.replicate a 0++row)) x) 0=0
    rw [ih];exact z0
theorem ygd {a b:Nat} {row:List Nat} (h:∀y∈row,y<p^m):∀y∈padL a b row,y<p^m:=fun y hy=>by
  have h0:=zah G.hp G.hm
  rcases List.mem_append.mp hy with h1|h1
  · rcases List.mem_append.mp h1 with h1|h1
    · rw [(List.mem_replicate.mp h1).2];exact h0
    · exact h y h1
  · rw [(List.mem_replicate.mp h1).2];exact h0
theorem yfz {r s n:Nat} {xs ys:List Nat} (hr:r<p^m) (hs:s<p^m) (e:mul p m t s r=1) (o:Ord p m t r n) (lx:xs.length=n) (ly:ys.length=n) (hx:∀x∈xs,x<p^m) (hy:∀y∈ys,y<p^m) :
    sumF p m n (fun i=>mul p m t (val p m t (pw p m t r i) xs) (val p m t (pw p m t s i) ys))=mul p m t (dot p m t xs ys) (n%p):=by
  have hp:=G.hp
  have hm:=G.hm
  have e1:∀i,mul p m t (val p m t (pw p m t r i) xs) (val p m t (pw p m t s i) ys)=sumF p m n fun k=>sumF p m n fun l=>mul p m t (mul p m t (pw p m t r (i*k)) (pw p m t s (i*l))) (mul p m t (xs.getD k 0) (ys.getD l 0)):=fun i=>by
    rw [zaJ hp hm (zaA hp hm _ _) xs hx,zaJ hp hm (zaA hp hm _ _) ys hy,lx,ly,←zaQ hp hm]
    refine yaf hp hm _ fun k _=>?_
    rw [mul_comm hp hm,←zaQ hp hm]
    refine yaf hp hm _ fun l _=>?_
    rw [←zaE hp hm,←zaE hp hm]
    rw [mul_comm hp hm (ys.getD l 0),mul_comm hp hm (xs.getD k 0),mul_assoc hp hm,mul_left_comm hp hm (ys.getD l 0),←mul_assoc hp hm (pw p m t s (i*l)),mul_comm hp hm (pw p m t s (i*l)),mul_comm hp hm (ys.getD l 0)]
  rw [yaf hp hm n fun i _=>e1 i,zel hp hm]
  have e2:∀k,k<n→(sumF p m n fun i=>sumF p m n fun l=>mul p m t (mul p m t (pw p m t r (i*k)) (pw p m t s (i*l))) (mul p m t (xs.getD k 0) (ys.getD l 0)))=mul p m t (mul p m t (xs.getD k 0) (ys.getD k 0)) (n%p):=fun k hk=>by
    rw [zel hp hm]
    have e3:∀l,l<n→(sumF p m n fun i=>mul p m t (mul p m t (pw p m t r (i*k)) (pw p m t s (i*l))) (mul p m t (xs.getD k 0) (ys.getD l 0)))=if l=k then mul p m t (n%p) (mul p m t (xs.getD k 0) (ys.getD l 0)) else 0:=fun l hl=>by
      rw [zaQ hp hm,orth G hr hs e o hk hl]
      by_cases c:k=l
      · rw [if_pos c,if_pos c.symm]
      · rw [if_neg c,if_neg (fun h=>c h.symm),zero_mul hp hm]
    rw [yaf hp hm n e3,zfe hp hm (a:=k) (fun l=>if l=k then mul p m t (n%p) (mul p m t (xs.getD k 0) (ys.getD l 0)) else 0) (by rw [if_pos rfl];exact zap hp hm _ _) (fun i hi=>if_neg hi) _ hk,if_pos rfl,mul_comm hp hm]
  rw [yaf hp hm n e2,zaQ hp hm]
  unfold dot
  rw [lx,ly,Nat.min_self]
theorem zfW {r s n:Nat} {xs ys:List Nat} (r0:0<r) (hr:r<p^m) (hs:s<p^m) (e:mul p m t s r=1) (o:Ord p m t r n) (lx:xs.length=n) (ly:ys.length=n) (hx:∀x∈xs,x<p^m) (hy:∀y∈ys,y<p^m)
    (h:∀i,i<n→val p m t (pw p m t r i) xs=0∨val p m t (pw p m t s i) ys=0):dot p m t xs ys=0:=by
  have hp:=G.hp
  have hm:=G.hm
  have key:=yfz G hr hs e o lx ly hx hy
  have z:sumF p m n (fun i=>mul p m t (val p m t (pw p m t r i) xs) (val p m t (pw p m t s i) ys))=0:=by
    rw [yaf hp hm (g:=fun _=>0) n fun i hi=>?_,zc7 hp hm]
    rcases h i hi with c|c
    · rw [c,zero_mul hp hm]
    · rw [c,mul_zero hp hm]
  rw [z] at key
  have hd:dot p m t xs ys<p^m:=ybT hp hm _ _
  have hn:=Nat.pos_of_ne_zero (zho G r0 hr o)
  have hn2:n%p<p^m:=Nat.lt_of_lt_of_le (Nat.mod_lt _ (by lia)) (Nat.le_self_pow (by lia) p)
  rcases Nat.eq_zero_or_pos (dot p m t xs ys) with h|h
  · exact h
  · have:=G.noz h hd hn hn2
    lia
theorem ygO {r s n i:Nat} (hr:r<p^m) (hs:s<p^m) (e:mul p m t s r=1) (o:Ord p m t r n) (hi:i<n):pw p m t s i=pw p m t r ((n-i)%n):=by
  have hp:=G.hp
  have hm:=G.hm
  by_cases c:i=0
  · subst c
    rw [Nat.sub_zero,Nat.mod_self];rfl
  · rw [Nat.mod_eq_of_lt (by lia)]
    have h1:mul p m t (pw p m t r (n-i)) (pw p m t r i)=1:=by rw [←za2 hp hm,show n-i+i=n by lia,o.one]
    have h2:mul p m t (pw p m t s i) (pw p m t r i)=1:=by rw [←ybo hp hm,e,yaY hp hm]
    have h3:=congrArg (fun z=>mul p m t z (pw p m t s i)) h1
    rw [mul_assoc hp hm,mul_comm hp hm (pw p m t r i),h2,mul_one hp hm (zaA hp hm _ _),one_mul hp hm (zaA hp hm _ _)] at h3
    exact h3.symm
end
noncomputable def zaw (marks:List Nat) (n:Nat):List Nat:=(List.range n).filter fun i=>decide ((n-i)%n∉marks)
theorem zby {marks:List Nat} {n i:Nat}:i∈zaw marks n↔i<n∧(n-i)%n∉marks:=by
  unfold zaw
  rw [List.mem_filter,List.mem_range]
  simp
theorem zek (marks:List Nat) (n:Nat):(zaw marks n).Pairwise (· < ·):=List.Pairwise.filter _ List.pairwise_lt_range
theorem za8 {n i:Nat} (h:i<n):(n-(n-i)%n)%n=i:=by
  by_cases c:i=0
  · subst c;rw [Nat.sub_zero,Nat.mod_self,Nat.sub_zero,Nat.mod_self]
  · rw [Nat.mod_eq_of_lt (by lia:n-i<n),show n-(n-i)=i by lia,Nat.mod_eq_of_lt h]
theorem yec:∀ {xs ys:List Nat},xs.Pairwise (· < ·)→ys.Pairwise (· < ·)→(∀x,x∈xs↔x∈ys)→xs=ys
  | [],[],_,_,_=>rfl
  | [],y::ys,_,_,h=>absurd ((h y).mpr List.mem_cons_self) (by simp)
  | x::xs,[],_,_,h=>absurd ((h x).mp List.mem_cons_self) (by simp)
  | x::xs,y::ys,a1,a2,h=>by
    have a1:=List.pairwise_cons.mp a1
    have a2:=List.pairwise_cons.mp a2
    have hxy:x=y:=by
      rcases List.mem_cons.mp ((h x).mp List.mem_cons_self) with e|e
      · exact e
      · rcases List.mem_cons.mp ((h y).mpr List.mem_cons_self) with e'|e'
        · exact e'.symm
        · have:=a2.1 x e;have:=a1.1 y e';lia
    subst hxy
    rw [yec a1.2 a2.2 fun z=>?_]
    constructor
    · intro hz
      rcases List.mem_cons.mp ((h z).mp (List.mem_cons_of_mem _ hz)) with e|e
      · have:=a1.1 z hz;lia
      · exact e
    · intro hz
      rcases List.mem_cons.mp ((h z).mpr (List.mem_cons_of_mem _ hz)) with e|e
      · have:=a2.1 z hz;lia
      · exact e
theorem zeE {marks:List Nat} {n:Nat} (ha:marks.Pairwise (· < ·)) (hl:∀x∈marks,x<n):zaw (zaw marks n) n=marks:=by
  refine yec (zek _ _) ha fun x=>?_
  rw [zby,zby]
  constructor
  · rintro ⟨h1,h2⟩
    refine Classical.byContradiction fun h3=>h2 ⟨Nat.mod_lt _ (by lia),?_⟩
    rw [za8 h1];exact h3
  · intro h
    have h1:=hl x h
    refine ⟨h1,fun h2=>h2.2 ?_⟩
    rw [za8 h1];exact h
end My
end
section
-- text: PV
set_option Elab.async false
set_option linter.all false
set_option maxRecDepth 100000
set_option maxHeartbeats 4000000
namespace My
open PySem L2 Dg
theorem ybZ:∀ {l l':List Nat},l.Nodup→(∀x∈l,x∈l')→l.length≤l'.length
  | [],_,_,_=>Nat.zero_le _
  | x::l,l',hd,h=>by
    have hd':=List.nodup_cons.mp hd
    have hx:=h x List.mem_cons_self
    have:=ybZ (l:=l) (l':=l'.erase x) hd'.2 fun y hy=>(List.mem_erase_of_ne (fun e=>hd'.1 (by rw [←e];exact hy))).mpr (h y (List.mem_cons_of_mem _ hy))
    rw [List.length_erase_of_mem hx] at this
    have:=List.length_pos_of_mem hx
    rw [List.length_cons];lia
theorem ycx (q k:Nat):q-1 ∣ q^k-1:=by
  induction k with
  | zero=>simp
  | succ k ih =>
    obtain ⟨c,hc⟩:=ih
    rcases Nat.eq_zero_or_pos q with h|h
    · subst h;simp
    · have hk:1≤q^k:=Nat.pow_pos h
      refine ⟨q^k+c,?_⟩
      have e:q^k=(q-1)*c+1:=by lia
      rw [Nat.pow_succ,Nat.mul_add,←hc,Nat.mul_comm (q-1),Nat.mul_sub,Nat.mul_one]
      have:=Nat.mul_le_mul_left (q^k) h
      lia
section
variable {p m t:Nat} (G:Good p m t)
include G
theorem yfp {few:Nat} (hf:m%few=0) (hf1:1≤few):(lets p m t few).length≤p^few:=by
  have hp:=G.hp
  have hm:=G.hm
  obtain ⟨b,Pb⟩:=G.prim
  have hq2:2≤p^few:=Nat.le_trans hp (Nat.le_self_pow (by lia) p)
  obtain ⟨kk,hkk⟩:p^few-1 ∣ p^m-1:=by
    have:=ycx (p^few) (m/few)
    rw [←Nat.pow_mul,Nat.mul_div_cancel' (Nat.dvd_of_mod_eq_zero hf)] at this
    exact this
  have h1:=zas hp hm
  have hnd:(lets p m t few).Nodup:=List.Pairwise.filter _ (List.pairwise_lt_range.imp fun h=>by lia)
  have hs:=ybZ (l':=0::(List.range (p^few-1)).map fun j=>pw p m t b (kk*j)) hnd fun x hx=>by
    obtain ⟨hxr,hxe⟩:=List.mem_filter.mp hx
    have hxr:=List.mem_range.mp hxr
    have hxe:pw p m t x (p^few)=x:=of_decide_eq_true hxe
    rcases Nat.eq_zero_or_pos x with h0|h0
    · rw [h0];exact List.mem_cons_self
    · refine List.mem_cons_of_mem _ ?_
      obtain ⟨i,hi,rfl⟩:=Pb.all x h0 hxr
      rw [←zaE hp hm] at hxe
      have e1:(i*p^few)%(p^m-1)=i:=by
        refine G.inj Pb _ _ (Nat.mod_lt _ (by lia)) hi ?_
        rw [G.pw_mod Pb.pos Pb.lt];exact hxe
      have d1:p^m-1 ∣ i*(p^few-1):=by
        have e2:=Nat.div_add_mod (i*p^few) (p^m-1)
        rw [e1] at e2
        refine ⟨i*p^few/(p^m-1),?_⟩
        rw [Nat.mul_sub,Nat.mul_one];lia
      rw [hkk,Nat.mul_comm i] at d1
      have d2:=Nat.dvd_of_mul_dvd_mul_left (by lia) d1
      obtain ⟨j,rfl⟩:=d2
      refine List.mem_map.mpr ⟨j,List.mem_range.mpr ?_,rfl⟩
      rw [hkk,Nat.mul_comm (p^few-1)] at hi
      exact Nat.lt_of_mul_lt_mul_left hi
  rw [List.length_cons,List.length_map,List.length_range] at hs
  lia
theorem zdW {r n a b:Nat} (r0:0<r) (hr:r<p^m) (o:Ord p m t r n) (ha:a<n) (hb:b<n) (h:pw p m t r a=pw p m t r b):a=b:=by
  have hp:=G.hp
  have hm:=G.hm
  have es:∀i,mul p m t (pw p m t (pw p m t r (p^m-2)) i) (pw p m t r i)=1:=fun i=>by rw [←ybo hp hm,G.inv r0 hr,yaY hp hm]
  have inj:∀a b,a<b→b<n→pw p m t r a=pw p m t r b→False:=fun a b hab hb h=>by
    refine o.min (b-a) (by lia) (by lia) ?_
    have h2:=za2 (t:=t) hp hm r a (b-a)
    rw [show a+(b-a)=b by lia,←h] at h2
    have h3:=congrArg (fun z=>mul p m t (pw p m t (pw p m t r (p^m-2)) a) z) h2
    rw [es,←mul_assoc hp hm,es,one_mul hp hm (zaA hp hm _ _)] at h3
    exact h3.symm
  rcases Nat.lt_trichotomy a b with h1|h1|h1
  · exact (inj a b h1 hb h).elim
  · exact h1
  · exact (inj b a h1 ha h.symm).elim
end
noncomputable def addL (p m:Nat) (xs ys:List Nat):List Nat:=(List.range (min xs.length ys.length)).map fun i=>add p m (xs.getD i 0) (ys.getD i 0)
theorem zcc {p m n:Nat} {xs ys:List Nat} (h1:xs.length=n) (h2:ys.length=n):(addL p m xs ys).length=n:=by simp [addL,h1,h2]
section
variable {p m t:Nat} (G:Good p m t)
include G
theorem zdN (xs ys:List Nat):∀x∈addL p m xs ys,x<p^m:=fun x hx=>by
  obtain ⟨i,_,rfl⟩:=List.mem_map.mp hx
  exact ya2 G.hp G.hm _ _
theorem yeb {x n:Nat} {xs ys:List Nat} (hx:x<p^m) (l1:xs.length=n) (l2:ys.length=n) (h1:∀a∈xs,a<p^m) (h2:∀a∈ys,a<p^m):val p m t x (addL p m xs ys)=add p m (val p m t x xs) (val p m t x ys):=by
  have hp:=G.hp
  have hm:=G.hm
  rw [zaJ hp hm hx _ (zdN G xs ys),zaJ hp hm hx _ h1,zaJ hp hm hx _ h2,zcc l1 l2,l1,l2,←zb2 hp hm]
  refine yaf hp hm _ fun i hi=>?_
  have e:(addL p m xs ys).getD i 0=add p m (xs.getD i 0) (ys.getD i 0):=rget (by rw [l1,l2,Nat.min_self];exact hi)
  rw [e,add_mul hp hm]
theorem zdi {x c:Nat} {xs:List Nat} (hx:x<p^m) (h1:∀a∈xs,a<p^m):val p m t x (yar p m t c xs)=mul p m t c (val p m t x xs):=by
  have hp:=G.hp
  have hm:=G.hm
  have hl:(yar p m t c xs).length=xs.length:=by simp [yar]
  rw [zaJ hp hm hx _ (ycc G c xs),zaJ hp hm hx _ h1,hl,mul_comm hp hm c,←zaQ hp hm]
  refine yaf hp hm _ fun k hk=>?_
  rw [show (yar p m t c xs).getD k 0=mul p m t c (xs.getD k 0) from rget hk,mul_comm hp hm c,mul_assoc hp hm,mul_assoc hp hm,mul_comm hp hm c]
end
end My
end
section
-- text: PZ
set_option Elab.async false
set_option linter.all false
set_option maxRecDepth 100000
set_option maxHeartbeats 4000000
namespace My
open PySem L2 Dg
noncomputable def dvF (p m t:Nat) (ds rest:List Nat) (a:Nat):Nat:=mul p m t (rest.getD (a+ds.length-1) 0) (pw p m t (ds.getD (ds.length-1) 0) (p^m-2))
noncomputable def dvJ (p m t:Nat) (ds rest:List Nat) (a c j:Nat):List Nat:=(List.range rest.length).map fun i=>if a≤i∧i<a+j then sub p m (rest.getD i 0) (mul p m t c (ds.getD (i-a) 0)) else rest.getD i 0
noncomputable def dvS (p m t:Nat) (ds rest:List Nat) (a:Nat):List Nat:=dvJ p m t ds rest a (dvF p m t ds rest a) ds.length
noncomputable def dvI (p m t:Nat) (ds one:List Nat) (N:Nat):Nat→List Nat
  | 0=>one
  | i+1=>dvS p m t ds (dvI p m t ds one N i) (N-1-i)
theorem zdC (p m t:Nat) (ds rest:List Nat) (a c j:Nat):(dvJ p m t ds rest a c j).length=rest.length:=by simp [dvJ]
theorem ycV (p m t:Nat) (ds one:List Nat) (N:Nat):∀i,(dvI p m t ds one N i).length=one.length
  | 0=>rfl
  | i+1=>by unfold dvI dvS;rw [zdC,ycV p m t ds one N i]
theorem yfw {p m t:Nat} {ds rest:List Nat} {a c j i:Nat} (hi:i<rest.length):(dvJ p m t ds rest a c j).getD i 0=if a≤i∧i<a+j then sub p m (rest.getD i 0) (mul p m t c (ds.getD (i-a) 0)) else rest.getD i 0:=by
  unfold dvJ
  rw [ydj,if_pos hi]
theorem yeV {xs:List Nat} (h:trim xs=xs) (h0:0<xs.length):xs.getD (xs.length-1) 0≠0:=by
  intro c
  have e:xs=xs.take (xs.length-1)++[0]:=by
    have:=yex (l:=xs) (e:=xs.length-1) (by lia)
    rw [show xs.length-1+1=xs.length by lia,List.take_length,c] at this
    exact this
  have e2:trim xs=trim (xs.take (xs.length-1)):=by conv=>lhs;rw [e,zct]
  have:=zeV (xs.take (xs.length-1))
  rw [←e2,h,List.length_take] at this
  lia
theorem ydG {l:List Nat} {n:Nat} (h:∀k,n≤k→l.getD k 0=0):(trim l).length≤n:=by
  rcases Nat.lt_or_ge n (trim l).length with c|c
  · have h1:=yeV (zdl l) (by lia)
    rw [ydB] at h1
    exact absurd (h _ (by lia)) h1
  · exact c
section
variable {p m t:Nat} (G:Good p m t)
include G
theorem ybY {xs:List Nat} (h:∀x∈xs,x<p^m) (i:Nat):xs.getD i 0<p^m:=by
  by_cases c:i<xs.length
  · exact zbn h c
  · rw [zau (by lia)];exact zah G.hp G.hm
theorem zge {ds rest:List Nat} {a c j:Nat} (h:∀x∈rest,x<p^m):∀x∈dvJ p m t ds rest a c j,x<p^m:=fun x hx=>by
  obtain ⟨i,_,rfl⟩:=List.mem_map.mp hx
  split
  · exact ybj G.hp G.hm _ _
  · exact ybY G h i
theorem ycG {ds one:List Nat} {N:Nat} (h:∀x∈one,x<p^m):∀i,∀x∈dvI p m t ds one N i,x<p^m
  | 0=>h
  | i+1=>zge G (ycG h i)
theorem ybQ {x:Nat} (hx:x<p^m):sub p m x x=0:=by
  have:=zbr G.hp G.hm (y:=x) (zah G.hp G.hm (p:=p) (m:=m))
  rw [zero_add G.hp G.hm hx] at this
  exact this
theorem yef {ds one:List Nat} {N:Nat} (hN:N=one.length+1-ds.length) (hd:0<ds.length) (hl:0<ds.getD (ds.length-1) 0) (h:∀x∈one,x<p^m) (hds:∀x∈ds,x<p^m):∀i,i≤N→∀k,one.length≤k+i→(dvI p m t ds one N i).getD k 0=0
  | 0,_,k,hk=>zau (by unfold dvI;lia)
  | i+1,hi,k,hk=>by
    have hp:=G.hp
    have hm:=G.hm
    show (dvJ p m t ds (dvI p m t ds one N i) (N-1-i) (dvF p m t ds (dvI p m t ds one N i) (N-1-i)) ds.length).getD k 0=0
    by_cases c:k<one.length
    · rw [yfw (by rw [ycV];exact c)]
      by_cases c2:one.length≤k+i
      · rw [if_neg (by lia)]
        exact yef hN hd hl h hds i (by lia) k c2
      · have ek:k=N-1-i+ds.length-1:=by lia
        rw [if_pos (by lia),show k-(N-1-i)=ds.length-1 by lia]
        unfold dvF
        rw [←ek,mul_assoc hp hm,G.inv hl (ybY G hds _),mul_one hp hm (ybY G (ycG G h i) k)]
        exact ybQ G (ybY G (ycG G h i) k)
    · exact zau (by rw [zdC,ycV];lia)
theorem yfS {ds one:List Nat} (hd:0<ds.length) (hl:0<ds.getD (ds.length-1) 0) (h:∀x∈one,x<p^m) (hds:∀x∈ds,x<p^m):(trim (dvI p m t ds one (one.length+1-ds.length) (one.length+1-ds.length))).length≤ds.length-1:=by
  refine ydG fun k hk=>?_
  by_cases c:ds.length≤one.length
  · exact yef G rfl hd hl h hds _ (Nat.le_refl _) k (by lia)
  · rw [show one.length+1-ds.length=0 by lia]
    exact zau (by unfold dvI;lia)
theorem zgi {x y r:Nat} (hx:x<p^m) (hr:r<p^m):add p m x (mul p m t y (sub p m 0 r))=sub p m x (mul p m t r y):=by
  have hp:=G.hp
  have hm:=G.hm
  have e1:sub p m 0 r=mul p m t (p-1) r:=by rw [←zdj (t:=t) hp hm (zah hp hm) hr,zero_add hp hm (zap hp hm _ _)]
  have e2:mul p m t y (mul p m t (p-1) r)=mul p m t (p-1) (mul p m t r y):=by
    rw [mul_comm hp hm y,mul_assoc hp hm]
  rw [e1,e2,zdj hp hm hx (zap hp hm _ _)]
theorem zfY {row:List Nat} {b:Nat} (hr:∀x∈row,x<p^m):∀n,conv p m t row [b,1] n=add p m ((0::row).getD n 0) (mul p m t (row.getD n 0) b)
  | 0=>rfl
  | n+1=>by
    have hp:=G.hp
    have hm:=G.hm
    have h0:sumF p m n (fun i=>mul p m t (row.getD i 0) (([b,1]:List Nat).getD (n+1-i) 0))=0:=by
      have:sumF p m n (fun i=>mul p m t (row.getD i 0) (([b,1]:List Nat).getD (n+1-i) 0))=sumF p m n fun _=>0:=by
        refine yaf hp hm _ fun i hi=>?_
        rw [zau (show ([b,1]:List Nat).length≤n+1-i by simp;lia),mul_zero hp hm]
      rw [this]
      have:=ybf hp hm (fun _=>0) 0 n (fun _ _ _=>rfl)
      rw [Nat.zero_add] at this
      exact this
    show add p m (add p m (sumF p m n fun i=>mul p m t (row.getD i 0) (([b,1]:List Nat).getD (n+1-i) 0)) (mul p m t (row.getD n 0) (([b,1]:List Nat).getD (n+1-n) 0))) (mul p m t (row.getD (n+1) 0) (([b,1]:List Nat).getD (n+1-(n+1)) 0))=_
    rw [h0,show n+1-n=1 by lia,Nat.sub_self]
    show add p m (add p m 0 (mul p m t (row.getD n 0) 1)) (mul p m t (row.getD (n+1) 0) b)=add p m (row.getD n 0) _
    rw [mul_one hp hm (ybY G hr n),zero_add hp hm (ybY G hr n)]
omit G in
theorem zcd (row:List Nat) (i:Nat):(row++[0]).getD i 0=row.getD i 0:=by
  by_cases c:i<row.length
  · rw [List.getD_eq_getElem?_getD,List.getElem?_append_left c,←List.getD_eq_getElem?_getD]
  · rw [zau (xs:=row) (by lia),List.getD_eq_getElem?_getD,List.getElem?_append_right (by lia)]
    cases i-row.length with
    | zero=>rfl
    | succ k=>rfl
theorem yhf {row:List Nat} {r:Nat} (hr:∀x∈row,x<p^m) (hrq:r<p^m) (h0:0<row.length) (hl:row.getD (row.length-1) 0=1):rmul p m t row [sub p m 0 r,1]=mkS p m t r row:=by
  have hp:=G.hp
  have hm:=G.hm
  have hz:∀n,(0::row).getD n 0<p^m:=fun n=>ybY G (fun x hx=>by
    rcases List.mem_cons.mp hx with rfl|h
    · exact zah hp hm
    · exact hr x h) n
  have e:∀n,conv p m t row [sub p m 0 r,1] n=sub p m ((0::row).getD n 0) (mul p m t r ((row++[0]).getD n 0)):=fun n=>by
    rw [zfY G hr,zgi G (hz n) hrq,zcd]
  unfold rmul mkS
  rw [show (row.length+([sub p m 0 r,1]:List Nat).length)=row.length+1+1 from rfl,List.range_succ,List.map_append]
  have ez:conv p m t row [sub p m 0 r,1] (row.length+1)=0:=by
    rw [e,zcd,zau (xs:=row) (i:=row.length+1) (by lia),zau (xs:=0::row) (by simp),mul_zero hp hm]
    exact ybQ G (zah hp hm)
  rw [List.map_singleton,ez,zct,List.range_succ,List.map_append,List.map_singleton,List.map_append,List.map_singleton]
  have el:conv p m t row [sub p m 0 r,1] row.length=1:=by
    rw [e,zcd,zau (xs:=row) (i:=row.length) (Nat.le_refl _),mul_zero hp hm]
    obtain ⟨k,hk⟩:∃k,row.length=k+1:=⟨row.length-1,by lia⟩
    rw [hk]
    show sub p m (row.getD k 0) 0=1
    rw [hk] at hl
    rw [show k+1-1=k from rfl] at hl
    rw [hl]
    have:=zbr hp hm (x:=1) (y:=0) (zas hp hm)
    rw [add_zero hp hm (zas hp hm)] at this
    exact this
  rw [el,ydw (by decide),←e,el]
  refine congrArg (·++[1]) (List.map_congr_left fun n _=>e n)
theorem zfS {row:List Nat} {r:Nat} (h0:0<row.length) (hl:row.getD (row.length-1) 0=1):(mkS p m t r row).getD row.length 0=1:=by
  have hp:=G.hp
  have hm:=G.hm
  unfold mkS
  rw [ydj,if_pos (by lia),zcd,zau (xs:=row) (i:=row.length) (Nat.le_refl _),mul_zero hp hm]
  obtain ⟨k,hk⟩:∃k,row.length=k+1:=⟨row.length-1,by lia⟩
  rw [hk]
  show sub p m (row.getD k 0) 0=1
  rw [hk] at hl
  rw [show k+1-1=k from rfl] at hl
  rw [hl]
  have:=zbr hp hm (x:=1) (y:=0) (zas hp hm)
  rw [add_zero hp hm (zas hp hm)] at this
  exact this
theorem zd9 (root:Nat):∀(marks row:List Nat),0<row.length→row.getD (row.length-1) 0=1→(marks.foldl (fun row k=>mkS p m t (pw p m t root k) row) row).getD (row.length+marks.length-1) 0=1
  | [],row,_,h=>h
  | k::marks,row,h0,h=>by
    have:=zd9 root marks (mkS p m t (pw p m t root k) row) (by rw [ycu];lia) (by rw [ycu];exact zfS G h0 h)
    rw [ycu] at this
    rw [List.foldl_cons,show row.length+(k::marks).length-1=row.length+1+marks.length-1 by rw [List.length_cons];lia]
    exact this
theorem ycU (root:Nat) (marks:List Nat):(mkL p m t root marks).getD marks.length 0=1:=by
  have:=zd9 G root marks [1] (by decide) rfl
  rw [show ([1]:List Nat).length+marks.length-1=marks.length by simp] at this
  exact this
end
noncomputable def mdR (p m t root:Nat) (marks gs:List Nat):List Nat:=trim (List.replicate marks.length 0++gs)
noncomputable def mdN (p m t root:Nat) (marks gs:List Nat):Nat:=(mdR p m t root marks gs).length+1-(mkL p m t root marks).length
noncomputable def mdL (p m t root:Nat) (marks gs:List Nat):List Nat:=((wid (trim (dvI p m t (mkL p m t root marks) (mdR p m t root marks gs) (mdN p m t root marks gs) (mdN p m t root marks gs))) marks.length).map (sub p m 0))++gs
theorem zgh {p m t root:Nat} {marks gs:List Nat} (G:Good p m t) (h:∀x∈gs,x<p^m):∀x∈mdR p m t root marks gs,x<p^m:=fun x hx=>by
  rcases List.mem_append.mp (ycW _ _ hx) with c|c
  · rw [List.eq_of_mem_replicate c];exact zah G.hp G.hm
  · exact h x c
theorem ycS {p m t root:Nat} {marks gs:List Nat} (G:Good p m t) (h:∀x∈gs,x<p^m):(trim (dvI p m t (mkL p m t root marks) (mdR p m t root marks gs) (mdN p m t root marks gs) (mdN p m t root marks gs))).length≤marks.length:=by
  have:=yfS G (ds:=mkL p m t root marks) (one:=mdR p m t root marks gs) (by rw [yaU];lia) (by rw [yaU,Nat.add_sub_cancel,ycU G];exact Nat.one_pos) (zgh G h) (ycm G marks)
  rw [yaU,Nat.add_sub_cancel] at this
  unfold mdN
  rw [yaU]
  exact this
theorem ydJ {p m t root:Nat} {marks gs:List Nat} (G:Good p m t) (h:∀x∈gs,x<p^m):(mdL p m t root marks gs).length=marks.length+gs.length:=by
  unfold mdL
  rw [List.length_append,List.length_map,yd2 (ycS G h)]
theorem yeD {p m t root:Nat} {marks gs:List Nat} (G:Good p m t) (h:∀x∈gs,x<p^m):∀x∈mdL p m t root marks gs,x<p^m:=fun x hx=>by
  rcases List.mem_append.mp hx with c|c
  · obtain ⟨y,_,rfl⟩:=List.mem_map.mp c
    exact ybj G.hp G.hm _ _
  · exact h x c
end My
end
section
-- text: PQ
set_option Elab.async false
set_option linter.all false
set_option maxRecDepth 100000
set_option maxHeartbeats 4000000
namespace My
open PySem L2 Dg
noncomputable def hor (p m t y:Nat):List Nat→List Nat
  | []=>[]
  | _::r=>val p m t y r::hor p m t y r
theorem zdI (p m t y:Nat):∀(xs:List Nat) (i:Nat),(hor p m t y xs).getD i 0=val p m t y (xs.drop (i+1))
  | [],i=>by simp [hor,val]
  | a::r,0=>rfl
  | a::r,i+1=>zdI p m t y r i
section
variable {p m t:Nat} (G:Good p m t)
include G
theorem zf5 (y:Nat):∀(xs:List Nat),∀x∈hor p m t y xs,x<p^m
  | [],x,h=>nomatch h
  | a::r,x,h=>by
    rcases List.mem_cons.mp h with h|h
    · rw [h];exact zbR G.hp G.hm _ _
    · exact zf5 y r x h
theorem zdp {x y:Nat} (hx:x<p^m) (hy:y<p^m) (h:sub p m x y=0):x=y:=by
  have:=yaF G.hp G.hm (y:=y) hx
  rw [h,zero_add G.hp G.hm hy] at this
  exact this.symm
theorem ze0 {y z:Nat} (hz:z<p^m):∀(xs:List Nat),(∀x∈xs,x<p^m)→val p m t z xs=add p m (mul p m t (sub p m z y) (val p m t z (hor p m t y xs))) (val p m t y xs)
  | [],_=>by
    show 0=add p m (mul p m t (sub p m z y) 0) 0
    rw [mul_zero G.hp G.hm,add_zero G.hp G.hm (zah G.hp G.hm)]
  | a::r,h=>by
    have hp:=G.hp
    have hm:=G.hm
    have ih:=ze0 hz r (fun x hx=>h x (List.mem_cons_of_mem _ hx)) (y:=y)
    show add p m (mul p m t (val p m t z r) z) a=add p m (mul p m t (sub p m z y) (add p m (mul p m t (val p m t z (hor p m t y r)) z) (val p m t y r))) (add p m (mul p m t (val p m t y r) y) a)
    have e1:mul p m t (val p m t y r) z=add p m (mul p m t (sub p m z y) (val p m t y r)) (mul p m t (val p m t y r) y):=by
      rw [mul_comm hp hm (sub p m z y),←mul_add hp hm,yaF hp hm hz]
    rw [←add_assoc hp hm]
    refine congrArg (add p m · a) ?_
    rw [ih,add_mul hp hm,e1,mul_add hp hm,add_assoc hp hm,mul_assoc hp hm]
theorem zdx:∀(pts:List Nat) (xs:List Nat),pts.Nodup→(∀y∈pts,y<p^m)→(∀x∈xs,x<p^m)→(∀i,pts.length≤i→xs.getD i 0=0)→(∀y∈pts,val p m t y xs=0)→∀i,xs.getD i 0=0
  | [],xs,_,_,_,h,_=>fun i=>h i (Nat.zero_le _)
  | y::pts,xs,hn,hy,hx,h,hv=>by
    have hp:=G.hp
    have hm:=G.hm
    have vz:∀(k:Nat),(∀i,k≤i→xs.getD i 0=0)→val p m t y (xs.drop k)=0:=fun k hk=>by
      have e:xs.drop k=List.replicate (xs.drop k).length 0:=by
        refine List.eq_replicate_iff.mpr ⟨rfl,fun b hb=>?_⟩
        obtain ⟨i,hi,rfl⟩:=List.mem_iff_getElem.mp hb
        rw [List.getElem_drop]
        have:=hk (k+i) (by lia)
        rw [List.length_drop] at hi
        rw [List.getD_eq_getElem?_getD,List.getElem?_eq_getElem (by lia)] at this
        exact this
      rw [e]
      generalize (xs.drop k).length=n
      induction n with
      | zero=>rfl
      | succ n ih =>
        show add p m (mul p m t (val p m t y (List.replicate n 0)) y) 0=0
        rw [ih,zero_mul hp hm,add_zero hp hm (zah hp hm)]
    have hes:∀i,(hor p m t y xs).getD i 0=0:=by
      refine zdx pts (hor p m t y xs) (List.nodup_cons.mp hn).2 (fun z hz=>hy z (List.mem_cons_of_mem _ hz)) (zf5 G y xs) (fun i hi=>?_) (fun z hz=>?_)
      · rw [zdI]
        exact vz (i+1) fun j hj=>h j (by simp;lia)
      · have e:=ze0 G (y:=y) (hy z (List.mem_cons_of_mem _ hz)) xs hx
        rw [hv z (List.mem_cons_of_mem _ hz),hv y List.mem_cons_self,add_zero hp hm (zap hp hm _ _)] at e
        rcases Nat.eq_zero_or_pos (val p m t z (hor p m t y xs)) with c|c
        · exact c
        · have hne:0<sub p m z y:=by
            rcases Nat.eq_zero_or_pos (sub p m z y) with d|d
            · have:=zdp G (hy z (List.mem_cons_of_mem _ hz)) (hy y List.mem_cons_self) d
              exact absurd (this ▸ hz) (List.nodup_cons.mp hn).1
            · exact d
          have:=G.noz hne (ybj hp hm _ _) c (zbR hp hm _ _)
          lia
    have hd:∀i,val p m t y (xs.drop i)=0
      | 0=>by rw [List.drop_zero];exact hv y List.mem_cons_self
      | i+1=>by rw [←zdI];exact hes i
    intro i
    by_cases c:i<xs.length
    · have e:=hd i
      rw [List.drop_eq_getElem_cons c] at e
      change add p m (mul p m t (val p m t y (xs.drop (i+1))) y) xs[i]=0 at e
      rw [hd (i+1),zero_mul hp hm,zero_add hp hm (hx _ (List.getElem_mem c))] at e
      rw [List.getD_eq_getElem?_getD,List.getElem?_eq_getElem c]
      exact e
    · exact zau (by lia)
theorem ye4 {pts u v:List Nat} (hn:pts.Nodup) (hy:∀y∈pts,y<p^m) (hl:u.length=v.length) (hu:∀x∈u,x<p^m) (hv:∀x∈v,x<p^m) (hd:u.drop pts.length=v.drop pts.length) (h:∀y∈pts,val p m t y u=val p m t y v):u=v:=by
  have hp:=G.hp
  have hm:=G.hm
  have lp:(yar p m t (p-1) v).length=v.length:=by simp [yar]
  have gp:∀i,(yar p m t (p-1) v).getD i 0=mul p m t (p-1) (v.getD i 0):=fun i=>by
    by_cases c:i<v.length
    · exact rget c
    · rw [zau (xs:=v) (by lia),zau (by rw [lp];lia),mul_zero hp hm]
  have gd:∀i,i<u.length→(addL p m u (yar p m t (p-1) v)).getD i 0=sub p m (u.getD i 0) (v.getD i 0):=fun i hi=>by
    have:(addL p m u (yar p m t (p-1) v)).getD i 0=add p m (u.getD i 0) ((yar p m t (p-1) v).getD i 0):=rget (by rw [lp,hl,Nat.min_self];lia)
    rw [this,gp,zdj hp hm (ybY G hu i) (ybY G hv i)]
  have la:=zcc (p:=p) (m:=m) (n:=u.length) (ys:=yar p m t (p-1) v) rfl (by rw [lp,hl])
  have z:=zdx G pts (addL p m u (yar p m t (p-1) v)) hn hy (zdN G _ _) (fun i hi=>by
    by_cases c:i<u.length
    · rw [gd i c]
      have e:u.getD i 0=v.getD i 0:=by
        have h1:=congrArg (fun l=>l.getD (i-pts.length) 0) hd
        rw [List.getD_eq_getElem?_getD,List.getElem?_drop,List.getD_eq_getElem?_getD,List.getElem?_drop,show pts.length+(i-pts.length)=i by lia] at h1
        rw [List.getD_eq_getElem?_getD,List.getD_eq_getElem?_getD];exact h1
      rw [e];exact ybQ G (ybY G hv i)
    · exact zau (by rw [la];lia)) (fun y hy'=>by
    rw [yeb G (hy y hy') rfl (by rw [lp,hl]) hu (ycc G _ _),zdi G (hy y hy') hv,h y hy',zdj hp hm (zbR hp hm _ _) (zbR hp hm _ _)]
    exact ybQ G (zbR hp hm _ _))
  refine List.ext_getElem hl fun i h1 h2=>?_
  have e:=z i
  rw [gd i h1] at e
  have:=zdp G (ybY G hu i) (ybY G hv i) e
  rw [List.getD_eq_getElem?_getD,List.getElem?_eq_getElem h1,List.getD_eq_getElem?_getD,List.getElem?_eq_getElem h2] at this
  exact this
theorem ydT (y:Nat) (xs ys:List Nat) (hx:∀x∈xs,x<p^m) (hy:y<p^m):val p m t y (xs++ys)=add p m (mul p m t (val p m t y ys) (pw p m t y xs.length)) (val p m t y xs):=by
  have hp:=G.hp
  have hm:=G.hm
  induction xs with
  | nil =>
    show val p m t y ys=add p m (mul p m t (val p m t y ys) 1) 0
    rw [mul_one hp hm (zbR hp hm _ _),add_zero hp hm (zbR hp hm _ _)]
  | cons a r ih =>
    show add p m (mul p m t (val p m t y (r++ys)) y) a=add p m (mul p m t (val p m t y ys) (pw p m t y (r.length+1))) (add p m (mul p m t (val p m t y r) y) a)
    rw [ih (fun x h=>hx x (List.mem_cons_of_mem _ h)),add_mul hp hm,←add_assoc hp hm,mul_assoc hp hm,za2 hp hm,yb5 hp hm hy]
theorem zdd (y:Nat):∀l:List Nat,(∀x∈l,x<p^m)→val p m t y (trim l)=val p m t y l
  | [],_=>rfl
  | x::xs,h=>by
    have hp:=G.hp
    have hm:=G.hm
    have ih:=zdd y xs fun z hz=>h z (List.mem_cons_of_mem _ hz)
    cases e:trim xs with
    | nil =>
      have e2:trim (x::xs)=if x=0 then [] else [x]:=by show (match trim xs with | []=>_|r=>_)=_;rw [e]
      rw [e] at ih
      have h0:val p m t y xs=0:=ih.symm
      rw [e2]
      show _=add p m (mul p m t (val p m t y xs) y) x
      rw [h0,zero_mul hp hm,zero_add hp hm (h x List.mem_cons_self)]
      by_cases c:x=0
      · rw [if_pos c,c];rfl
      · rw [if_neg c]
        show add p m (mul p m t 0 y) x=x
        rw [zero_mul hp hm,zero_add hp hm (h x List.mem_cons_self)]
    | cons z r =>
      have e2:trim (x::xs)=x::z::r:=by show (match trim xs with | []=>_|r=>_)=_;rw [e]
      rw [e] at ih
      rw [e2]
      show add p m (mul p m t (val p m t y (z::r)) y) x=add p m (mul p m t (val p m t y xs) y) x
      rw [ih]
theorem zcs (y:Nat):∀n,val p m t y (List.replicate n 0)=0
  | 0=>rfl
  | n+1=>by
    show add p m (mul p m t (val p m t y (List.replicate n 0)) y) 0=0
    rw [zcs y n,zero_mul G.hp G.hm,add_zero G.hp G.hm (zah G.hp G.hm)]
theorem zgN {y:Nat} (hy:y<p^m) (xs:List Nat) (n:Nat) (hx:∀x∈xs,x<p^m):val p m t y (wid xs n)=val p m t y xs:=by
  unfold wid
  rw [ydT G y _ _ hx hy,zcs G,zero_mul G.hp G.hm,zero_add G.hp G.hm (zbR G.hp G.hm _ _)]
theorem yhs (a b c d:Nat):add p m (add p m a b) (add p m c d)=add p m (add p m a c) (add p m b d):=by
  have hp:=G.hp
  have hm:=G.hm
  rw [add_assoc hp hm,←add_assoc hp hm b,add_comm hp hm b c,add_assoc hp hm c,←add_assoc hp hm]
theorem zgs {y:Nat} (hy:y<p^m) (xs:List Nat) (hx:∀x∈xs,x<p^m):add p m (val p m t y (xs.map (sub p m 0))) (val p m t y xs)=0:=by
  have hp:=G.hp
  have hm:=G.hm
  induction xs with
  | nil=>exact add_zero hp hm (zah hp hm)
  | cons a r ih =>
    have ih:=ih fun x h=>hx x (List.mem_cons_of_mem _ h)
    show add p m (add p m (mul p m t (val p m t y (r.map (sub p m 0))) y) (sub p m 0 a)) (add p m (mul p m t (val p m t y r) y) a)=0
    rw [yhs G,←add_mul hp hm,ih,zero_mul hp hm,yaF hp hm (zah hp hm),add_zero hp hm (zah hp hm)]
theorem ydp {f:Nat→Nat} {k:Nat} (h:∀i,i<k→f i=0):∀d,sumF p m (k+d) f=sumF p m d fun i=>f (k+i)
  | 0=>by
    have e:=yaf G.hp G.hm (f:=f) (g:=fun _=>0) k fun i hi=>h i hi
    rw [Nat.add_zero,e]
    have:=ybf G.hp G.hm (fun _=>0) 0 k (fun _ _ _=>rfl)
    rw [Nat.zero_add] at this
    exact this
  | d+1=>by
    show add p m (sumF p m (k+d) f) (f (k+d))=add p m (sumF p m d fun i=>f (k+i)) (f (k+d))
    rw [ydp h d]
theorem ygH {y a c:Nat} {ds rest:List Nat} (hy:y<p^m) (hds:∀x∈ds,x<p^m) (hr:∀x∈rest,x<p^m) (hl:a+ds.length≤rest.length) (h0:val p m t y ds=0):val p m t y (dvJ p m t ds rest a c ds.length)=val p m t y rest:=by
  have hp:=G.hp
  have hm:=G.hm
  have hw:sumF p m rest.length (fun i=>if a≤i∧i<a+ds.length then mul p m t (mul p m t c (ds.getD (i-a) 0)) (pw p m t y i) else 0)=0:=by
    have e:=ybf hp hm (fun i=>if a≤i∧i<a+ds.length then mul p m t (mul p m t c (ds.getD (i-a) 0)) (pw p m t y i) else 0) (a+ds.length) (rest.length-(a+ds.length)) (fun i h1 h2=>if_neg (by lia))
    rw [show a+ds.length+(rest.length-(a+ds.length))=rest.length by lia] at e
    rw [e,ydp G (fun i hi=>if_neg (by lia))]
    have e2:sumF p m ds.length (fun i=>if a≤a+i∧a+i<a+ds.length then mul p m t (mul p m t c (ds.getD (a+i-a) 0)) (pw p m t y (a+i)) else 0)=sumF p m ds.length fun i=>mul p m t (mul p m t (ds.getD i 0) (pw p m t y i)) (mul p m t c (pw p m t y a)):=by
      refine yaf hp hm _ fun i hi=>?_
      rw [if_pos (by lia),Nat.add_sub_cancel_left,za2 hp hm,mul_comm hp hm c,mul_assoc hp hm,mul_assoc hp hm]
      refine congrArg (mul p m t (ds.getD i 0)) ?_
      rw [←mul_assoc hp hm,mul_comm hp hm]
    rw [e2,zaQ hp hm,←zaJ hp hm hy ds hds,h0,zero_mul hp hm]
  rw [zaJ hp hm hy _ (zge G hr),zaJ hp hm hy _ hr,zdC]
  have e3:=zb2 hp hm rest.length (fun i=>mul p m t ((dvJ p m t ds rest a c ds.length).getD i 0) (pw p m t y i)) (fun i=>if a≤i∧i<a+ds.length then mul p m t (mul p m t c (ds.getD (i-a) 0)) (pw p m t y i) else 0)
  rw [hw,add_zero hp hm (ybT hp hm _ _)] at e3
  rw [←e3]
  refine yaf hp hm _ fun i hi=>?_
  rw [yfw hi]
  by_cases c1:a≤i∧i<a+ds.length
  · rw [if_pos c1,if_pos c1,←add_mul hp hm,yaF hp hm (ybY G hr i)]
  · rw [if_neg c1,if_neg c1,add_zero hp hm (zap hp hm _ _)]
theorem yeW {y:Nat} {ds one:List Nat} {N:Nat} (hN:N=one.length+1-ds.length) (hy:y<p^m) (hds:∀x∈ds,x<p^m) (ho:∀x∈one,x<p^m) (h0:val p m t y ds=0) (hd:0<ds.length):∀i,i≤N→val p m t y (dvI p m t ds one N i)=val p m t y one
  | 0,_=>rfl
  | i+1,hi=>by
    show val p m t y (dvJ p m t ds (dvI p m t ds one N i) (N-1-i) (dvF p m t ds (dvI p m t ds one N i) (N-1-i)) ds.length)=_
    rw [ygH G hy hds (ycG G ho i) (by rw [ycV];lia) h0]
    exact yeW hN hy hds ho h0 hd i (by lia)
theorem zcW {root k:Nat} {marks gs:List Nat} (hg:∀x∈gs,x<p^m) (hk:k∈marks):val p m t (pw p m t root k) (mdL p m t root marks gs)=0:=by
  have hp:=G.hp
  have hm:=G.hm
  have hy:=zaA hp hm (t:=t) root k
  have hz:=yca G (root:=root) hk
  have hR:=zgh (root:=root) (marks:=marks) G hg
  have e1:val p m t (pw p m t root k) (trim (dvI p m t (mkL p m t root marks) (mdR p m t root marks gs) (mdN p m t root marks gs) (mdN p m t root marks gs)))=val p m t (pw p m t root k) (List.replicate marks.length 0++gs):=by
    rw [zdd G _ _ (ycG G hR _),yeW G (N:=mdN p m t root marks gs) rfl hy (ycm G marks) hR hz (by rw [yaU];lia) _ (Nat.le_refl _)]
    unfold mdR
    refine zdd G _ _ fun x hx=>?_
    rcases List.mem_append.mp hx with c|c
    · rw [List.eq_of_mem_replicate c];exact zah hp hm
    · exact hg x c
  have hlt:∀x∈trim (dvI p m t (mkL p m t root marks) (mdR p m t root marks gs) (mdN p m t root marks gs) (mdN p m t root marks gs)),x<p^m:=fun x hx=>ycG G hR _ x (ycW _ _ hx)
  have hwl:=yd2 (ycS (root:=root) (marks:=marks) G hg)
  unfold mdL
  rw [ydT G _ _ _ (fun x hx=>by obtain ⟨z,_,rfl⟩:=List.mem_map.mp hx;exact ybj hp hm _ _) hy,List.length_map,hwl]
  have e2:=zgs G hy (wid (trim (dvI p m t (mkL p m t root marks) (mdR p m t root marks gs) (mdN p m t root marks gs) (mdN p m t root marks gs))) marks.length) (zgS (zah hp hm) hlt)
  rw [zgN G hy _ _ hlt,e1,ydT G _ _ _ (fun x hx=>by rw [List.eq_of_mem_replicate hx];exact zah hp hm) hy,zcs G,List.length_replicate,add_zero hp hm (zap hp hm _ _),add_comm hp hm] at e2
  exact e2
theorem yej {y few:Nat} (hy:y<p^m):∀xs:List Nat,(∀x∈xs,x<p^m)→val p m t (pw p m t y (p^few)) (xs.map fun x=>pw p m t x (p^few))=pw p m t (val p m t y xs) (p^few)
  | [],_=>by
    show 0=pw p m t 0 (p^few)
    have:0<p^few:=Nat.pow_pos (by have:=G.hp;lia)
    rw [show p^few=(p^few-1)+1 by lia,ybq G.hp G.hm]
  | a::r,h=>by
    have hp:=G.hp
    have hm:=G.hm
    show add p m (mul p m t (val p m t (pw p m t y (p^few)) (r.map fun x=>pw p m t x (p^few))) (pw p m t y (p^few))) (pw p m t a (p^few))=pw p m t (add p m (mul p m t (val p m t y r) y) a) (p^few)
    rw [yej hy r (fun x hx=>h x (List.mem_cons_of_mem _ hx)),←ybo hp hm,G.frobN few (zap hp hm _ _) (h a List.mem_cons_self)]
theorem yfv {few root n k:Nat} {marks:List Nat} (W:Whl p m t few root n marks) (hk:k∈marks):∃k'∈marks,pw p m t (pw p m t root k') (p^few)=pw p m t root k:=by
  have hp:=G.hp
  have hm:=G.hm
  have hn:=W.ord.pos
  have he:=W.ord.round G W.r0 W.rq W.fewm W.few1
  have he1:1≤m/few:=Nat.div_pos (Nat.le_of_dvd (by lia) (Nat.dvd_of_mod_eq_zero W.fewm)) W.few1
  have it:∀j,k*(p^few)^j%n∈marks:=fun j=>by
    induction j with
    | zero=>rw [Nat.pow_zero,Nat.mul_one,Nat.mod_eq_of_lt (W.lt k hk)];exact hk
    | succ j ih =>
      have:=W.closed _ ih
      rw [Nat.mod_mul_mod,Nat.mul_assoc,←Nat.pow_succ] at this
      exact this
  have pm:∀a,pw p m t root (a%n)=pw p m t root a:=fun a=>by
    conv=>rhs;rw [←Nat.div_add_mod a n,za2 hp hm,zaE hp hm,W.ord.one,yaY hp hm,one_mul hp hm (zaA hp hm _ _)]
  refine ⟨_,it (m/few-1),?_⟩
  rw [pm,←zaE hp hm,Nat.mul_assoc,←Nat.pow_succ,show (m/few-1).succ=m/few by lia,←pm,Nat.mul_mod,he,←Nat.mul_mod,Nat.mul_one,pm]
theorem zha {root n:Nat} {marks:List Nat} (r0:0<root) (hr:root<p^m) (o:Ord p m t root n) (hasc:marks.Pairwise (· < ·)) (hl:∀x∈marks,x<n):(marks.map fun k=>pw p m t root k).Nodup:=by
  rw [List.Nodup,List.pairwise_map]
  refine List.Pairwise.imp_of_mem (fun {a b} ha hb h e=>?_) hasc
  have:=zdW G r0 hr o (hl a ha) (hl b hb) e
  lia
theorem ydn {few root n:Nat} {marks u v:List Nat} (W:Whl p m t few root n marks) (hl:u.length=v.length) (hu:∀x∈u,x<p^m) (hv:∀x∈v,x<p^m) (hd:u.drop marks.length=v.drop marks.length) (zu:∀k∈marks,val p m t (pw p m t root k) u=0) (zv:∀k∈marks,val p m t (pw p m t root k) v=0):u=v:=by
  refine ye4 G (pts:=marks.map fun k=>pw p m t root k) (zha G W.r0 W.rq W.ord W.asc W.lt) (fun y hy=>?_) hl hu hv (by rw [List.length_map];exact hd) (fun y hy=>?_)
  · obtain ⟨k,_,rfl⟩:=List.mem_map.mp hy;exact zaA G.hp G.hm _ _
  · obtain ⟨k,hk,rfl⟩:=List.mem_map.mp hy
    rw [zu k hk,zv k hk]
theorem yeU {few root n:Nat} {marks u:List Nat} (W:Whl p m t few root n marks) (hu:∀x∈u,x<p^m) (zu:∀k∈marks,val p m t (pw p m t root k) u=0) (hd:∀x∈u.drop marks.length,pw p m t x (p^few)=x):∀x∈u,pw p m t x (p^few)=x:=by
  have hp:=G.hp
  have hm:=G.hm
  have e:(u.map fun x=>pw p m t x (p^few))=u:=by
    refine ydn G W (by rw [List.length_map]) (fun x hx=>by obtain ⟨y,_,rfl⟩:=List.mem_map.mp hx;exact zaA hp hm _ _) hu ?_ (fun k hk=>?_) zu
    · rw [←List.map_drop]
      conv=>rhs;rw [←List.map_id (u.drop marks.length)]
      exact List.map_congr_left fun x hx=>hd x hx
    · obtain ⟨k',hk',e'⟩:=yfv G W hk
      rw [←e',yej G (zaA hp hm _ _) u hu,zu k' hk']
      have:0<p^few:=Nat.pow_pos (by lia)
      rw [show p^few=(p^few-1)+1 by lia,ybq hp hm]
  intro x hx
  obtain ⟨i,hi,rfl⟩:=List.mem_iff_getElem.mp hx
  have:=congrArg (fun l=>l[i]?) e
  rw [List.getElem?_map,List.getElem?_eq_getElem hi] at this
  exact Option.some.inj this
omit G in
theorem yc5 {p m t root:Nat} {marks gs:List Nat} (G:Good p m t) (hg:∀x∈gs,x<p^m):(mdL p m t root marks gs).drop marks.length=gs:=by
  have hwl:=yd2 (ycS (root:=root) (marks:=marks) G hg)
  unfold mdL
  rw [List.drop_append_of_le_length (by rw [List.length_map,hwl];exact Nat.le_refl _)]
  rw [List.drop_eq_nil_of_le (by rw [List.length_map,hwl];exact Nat.le_refl _),List.nil_append]
theorem zbQ {few root n:Nat} {marks u:List Nat} (W:Whl p m t few root n marks) (hl:u.length=n) (hml:marks.length≤n) (hu:∀x∈u,x<p^m) (zu:∀k∈marks,val p m t (pw p m t root k) u=0):mdL p m t root marks (u.drop marks.length)=u:=by
  have hg:∀x∈u.drop marks.length,x<p^m:=fun x hx=>hu x (List.mem_of_mem_drop hx)
  refine ydn G W (by rw [ydJ G hg,List.length_drop];lia) (yeD G hg) hu (yc5 G hg) (fun k hk=>zcW G hg hk) zu
end
end My
end
section
-- text: WE
set_option Elab.async false
set_option linter.all false
set_option maxRecDepth 100000
set_option maxHeartbeats 4000000
namespace My
open PySem L2 Dg
noncomputable def sums (p m:Nat) (xs ys:List Nat):List Nat:=(List.range (min xs.length ys.length)).map fun i=>add p m (xs.getD i 0) (ys.getD i 0)
section
variable {p m t:Nat} (G:Good p m t)
include G
theorem yaE {x:Nat} (hx:x<p^m):x∈lets p m t few↔pw p m t x (p^few)=x:=by
  unfold lets
  rw [List.mem_filter,List.mem_range,decide_eq_true_iff]
  exact ⟨fun h=>h.2,fun h=>⟨hx,h⟩⟩
theorem zdV {few:Nat} (hf:m%few=0) (hf1:1≤few):(lets p m t few).length=p^few:=by
  refine Nat.le_antisymm (yfp G hf hf1) ?_
  have hp:=G.hp
  have hm:=G.hm
  obtain ⟨b,Pb⟩:=G.prim
  have hq2:2≤p^few:=Nat.le_trans hp (Nat.le_self_pow (by omega) p)
  obtain ⟨kk,hkk⟩:p^few-1 ∣ p^m-1:=by
    have:=ycx (p^few) (m/few)
    rw [←Nat.pow_mul,Nat.mul_div_cancel' (Nat.dvd_of_mod_eq_zero hf)] at this
    exact this
  have h1:=zas hp hm
  have hk0:0<kk:=by
    rcases Nat.eq_zero_or_pos kk with h|h
    · rw [h,Nat.mul_zero] at hkk;omega
    · exact h
  have hlt:∀j,j<p^few-1→kk*j<p^m-1:=fun j hj=>by
    rw [hkk,Nat.mul_comm (p^few-1)]
    exact Nat.mul_lt_mul_of_pos_left hj hk0
  have hnd:(0::(List.range (p^few-1)).map fun j=>pw p m t b (kk*j)).Nodup:=by
    rw [List.nodup_cons]
    refine ⟨fun h=>?_,yaV _ fun i j hi hj e=>?_⟩
    · obtain ⟨j,_,e⟩:=List.mem_map.mp h
      have:=G.pw_pos Pb.pos Pb.lt (kk*j)
      omega
    · have:=G.inj Pb _ _ (hlt i hi) (hlt j hj) e
      exact Nat.eq_of_mul_eq_mul_left hk0 this
  have:=ybZ hnd (l':=lets p m t few) fun x hx=>by
    rcases List.mem_cons.mp hx with h|h
    · rw [h,yaE G (by omega),show p^few=(p^few-1)+1 by omega,ybq hp hm]
    · obtain ⟨j,hj,rfl⟩:=List.mem_map.mp h
      rw [yaE G (zaA hp hm _ _),←zaE hp hm,←G.pw_mod Pb.pos Pb.lt,show kk*j*p^few=kk*j+(p^m-1)*j from ?_,Nat.add_mul_mod_self_left,G.pw_mod Pb.pos Pb.lt]
      rw [hkk]
      obtain ⟨q,hq⟩:∃q,p^few=q+1:=⟨p^few-1,by omega⟩
      rw [hq,Nat.add_sub_cancel,Nat.mul_add,Nat.mul_one,Nat.add_comm,Nat.mul_right_comm,Nat.mul_comm kk q]
  simp only [List.length_cons,List.length_map,List.length_range] at this
  omega
end
theorem zbg {α:Type} {l:List α} {i:Nat} {d:α} (h:i<l.length):l.take (i+1)=l.take i++[l.getD i d]:=by
  rw [List.take_succ_eq_append_getElem h]
  simp [List.getD,h]
noncomputable def unG (fr k:Nat):List Nat:=List.replicate k 0++[1]++List.replicate (fr-k-1) 0
noncomputable def mulR (p m t root:Nat) (marks:List Nat) (few fr k:Nat):List (List Nat):=(lets p m t few).map fun c=>yar p m t c (mdL p m t root marks (unG fr k))
noncomputable def wdL (p m t root:Nat) (marks:List Nat) (few fr:Nat):Nat→List (List Nat)
  | 0=>[mdL p m t root marks (List.replicate fr 0)]
  | k+1=>(wdL p m t root marks few fr k).flatMap fun u=>(mulR p m t root marks few fr k).map (sums p m u)
theorem ygu {fr k:Nat} (h:k<fr):(unG fr k).length=fr:=by
  unfold unG
  rw [List.length_append,List.length_append,List.length_replicate,List.length_replicate,List.length_singleton];omega
theorem ybs (p m t c:Nat) (xs:List Nat):(yar p m t c xs).length=xs.length:=by unfold yar;rw [List.length_map,List.length_range]
section
variable {p m t:Nat} (G:Good p m t)
include G
theorem yd5 {fr k:Nat}:∀x∈unG fr k,x<p^m:=fun x hx=>by
  have:=zas G.hp G.hm
  unfold unG at hx
  simp only [List.mem_append,List.mem_replicate,List.mem_singleton] at hx
  omega
end
end My
end
section
-- text: Q31a
set_option Elab.async false
set_option linter.all false
set_option maxRecDepth 100000
set_option maxHeartbeats 4000000
namespace My
open PySem L2 Dg
noncomputable def mkP (p m t r:Nat) (row:List Nat) (j:Nat):List Nat:=(List.range (row.length+1)).map fun i=>if i<j then sub p m ((0::row).getD i 0) (mul p m t r ((row++[0]).getD i 0)) else (0::row).getD i 0
theorem zfl (p m t r:Nat) (row:List Nat) (j:Nat):(mkP p m t r row j).length=row.length+1:=by simp [mkP]
theorem yfE (p m t r:Nat) (row:List Nat):mkP p m t r row 0=0::row:=by
  refine List.ext_getElem (by simp [mkP]) fun i h1 h2=>?_
  simp only [mkP,List.getElem_map,List.getElem_range]
  rw [if_neg (by omega),List.getD_eq_getElem?_getD,List.getElem?_eq_getElem h2];rfl
theorem zgE {p m t r:Nat} (G:Good p m t) {row:List Nat} (hr:∀y∈row,y<p^m):mkP p m t r row row.length=mkS p m t r row:=by
  refine List.map_congr_left fun i hi=>?_
  have hi:=List.mem_range.mp hi
  by_cases c:i<row.length
  · rw [if_pos c]
  · rw [if_neg c]
    have e:i=row.length:=by omega
    subst e
    have e1:(row++[0]).getD row.length 0=0:=by simp [List.getD]
    rw [e1,mul_zero G.hp G.hm]
    have hlt:(0::row).getD row.length 0<p^m:=zbn (xs:=0::row) (fun x hx=>by
      rcases List.mem_cons.mp hx with rfl|h
      · exact zah G.hp G.hm
      · exact hr x h) (by simp)
    have:=yaF G.hp G.hm (y:=0) hlt
    rw [add_zero G.hp G.hm (ybj G.hp G.hm _ _)] at this
    exact this.symm
theorem ygM {p m t r:Nat} {row:List Nat} {j:Nat} (hj:j<row.length):(mkP p m t r row j).getD j 0=(0::row).getD j 0:=by
  unfold mkP
  rw [rget (by omega),if_neg (by omega)]
theorem ygn {p m t r:Nat} {row:List Nat} {j:Nat} (hj:j<row.length):(mkP p m t r row j).set j (sub p m ((0::row).getD j 0) (mul p m t r (row.getD j 0)))=mkP p m t r row (j+1):=by
  refine List.ext_getElem (by simp [mkP]) fun i h1 h2=>?_
  rw [List.getElem_set]
  by_cases e:j=i
  · subst e
    rw [if_pos rfl]
    simp only [mkP,List.getElem_map,List.getElem_range]
    rw [if_pos (by omega)]
    have e2:(row++[0]).getD j 0=row.getD j 0:=by simp [List.getD,List.getElem?_append,hj]
    rw [e2]
  · rw [if_neg e]
    simp only [mkP,List.getElem_map,List.getElem_range]
    by_cases c:i<j
    · rw [if_pos c,if_pos (by omega)]
    · rw [if_neg c,if_neg (by omega)]
theorem zaV (n:Nat):(List.replicate n [V.int 0]).flatten=(List.replicate n 0).map Vn:=by
  induction n with
  | zero=>rfl
  | succ n ih=>rw [List.replicate_succ,List.flatten_cons,ih,List.replicate_succ];rfl
noncomputable def mvL (p m t root n:Nat) (marks:List Nat) (i:Nat):List Nat:=padL i (n-i-(marks.length+1)) (mkL p m t root marks)
theorem zdo {p m t root n:Nat} {marks:List Nat} {i:Nat} (h:i<n-marks.length):(mvL p m t root n marks i).length=n:=by
  unfold mvL;rw [ygN,yaU];omega
noncomputable def Tups (H:Hp) (ds:List Addr) (ls:List (List Nat)):Prop:=ds.length=ls.length∧∀(i:Nat) d,ds[i]?=some d→∃rs,ls[i]?=some rs∧H d=some (.tup (rs.map Vn))
theorem Tups.same {H H':Hp} {ds:List Addr} {ls:List (List Nat)} (h:Tups H ds ls) (s:Same H H'):Tups H' ds ls:=⟨h.1,fun i d e=>by obtain ⟨rs,a,b⟩:=h.2 i d e;exact ⟨rs,a,s _ _ b⟩⟩
theorem Tups.at {H:Hp} {ds:List Addr} {ls:List (List Nat)} {l:Addr} {xs:List V} {o:HO} (h:Tups H ds ls) (hl:H l=some (.lst xs)):Tups (upd H l o) ds ls:=⟨h.1,fun i d e=>by
  obtain ⟨rs,a,b⟩:=h.2 i d e
  refine ⟨rs,a,?_⟩
  rw [zad (fun q=>by rw [q,hl] at b;cases b)];exact b⟩
theorem Tups.snoc {H:Hp} {ds:List Addr} {ls:List (List Nat)} {d:Addr} {rs:List Nat} (h:Tups H ds ls) (hd:H d=some (.tup (rs.map Vn))):Tups H (ds++[d]) (ls++[rs]):=by
  refine ⟨by simp [h.1],fun i e he=>?_⟩
  rw [List.getElem?_append] at he
  split at he
  · rename_i hi
    obtain ⟨r,a,b⟩:=h.2 i e he
    exact ⟨r,by rw [List.getElem?_append_left (by rw [←h.1];exact hi)];exact a,b⟩
  · rename_i hi
    have hi2:i=ds.length:=by
      have:=(List.getElem?_eq_some_iff.mp he).1
      simp at this;omega
    subst hi2
    simp at he
    subst he
    exact ⟨rs,by rw [h.1,List.getElem?_append_right (Nat.le_refl _)];simp,hd⟩
theorem Tups.app {H:Hp} {ds es:List Addr} {ls ks:List (List Nat)} (h:Tups H ds ls) (h2:Tups H es ks):Tups H (ds++es) (ls++ks):=by
  refine ⟨by simp [h.1,h2.1],fun i e he=>?_⟩
  rw [List.getElem?_append] at he
  split at he
  · rename_i hi
    obtain ⟨r,a,b⟩:=h.2 i e he
    exact ⟨r,by rw [List.getElem?_append_left (by rw [←h.1];exact hi)];exact a,b⟩
  · rename_i hi
    obtain ⟨r,a,b⟩:=h2.2 _ e he
    exact ⟨r,by rw [List.getElem?_append_right (by rw [←h.1];omega),←h.1];exact a,b⟩
noncomputable def WOk (p m t root n:Nat) (marks:List Nat) (ws:List (List Nat)):Prop:=∀w∈ws,w.length=n∧(∀x∈w,x<p^m)∧∀k∈marks,val p m t (pw p m t root k) w=0
noncomputable def lwL (p m t root n:Nat) (marks:List Nat) (few:Nat):Nat→List (List Nat)
  | 0=>[List.replicate n 0]
  | k+1=>(lets p m t few).flatMap fun c=>(lwL p m t root n marks few k).map fun u=>addL p m u (yar p m t c (mvL p m t root n marks k))
theorem yda {α:Type} {ws:List α} {f:Nat→α→α}:∀cs:List Nat,(cs.flatMap fun c=>ws.map (f c)).length=cs.length*ws.length
  | []=>by simp
  | c::cs=>by
    rw [List.flatMap_cons,List.length_append,List.length_map,yda cs,List.length_cons,Nat.succ_mul,Nat.add_comm]
theorem zcv (p m t root n:Nat) (marks:List Nat) (few:Nat):∀k,(lwL p m t root n marks few k).length=(lets p m t few).length^k
  | 0=>rfl
  | k+1=>by
    show (List.flatMap _ _).length=_
    rw [yda,zcv p m t root n marks few k,Nat.pow_succ,Nat.mul_comm]
section
variable {P:Program} {w:World} {K:PySem.W.Frag} {mg:Str→Option Value} {base:Heap} {f:Addr} {fd:FuncData}
theorem zaU:yai ["_law_table_here","_law_few","_law_high","_law_some"] ["_law_table_here","_law_few"] (yac zaN):=⟨rfl,rfl,rfl,by decide +kernel,rfl,by decide +kernel,by decide +kernel⟩
theorem ydK (B:Bl mg) (h__law_raised:Has P w K mg base 1 "_law_raised" ["_law_one","_law_many"] yah) (h__law_power:Has P w K mg base 1 "_law_power" ["_law_table_here","_law_one","_law_many"] ycd) (F:Fun K "_law_letters" "_law_letters" zaN f fd):FnOk P w K mg base CX0 2 f fd ["_law_table_here","_law_few"] zbJ:=by
  refine F.ok zaU (fun vs H Q E h=>?_) (fun cdv A outer s H vs Q E hr h=>?_)
  · obtain ⟨tb,fa,pa,la,p,m,t,b,few,rfl,_⟩:=h;rfl
  obtain ⟨tb,fa,pa,la,p,m,t,b,few,rfl,T,hf,q⟩:=h
  have G:=T.good
  have hp:=G.hp
  have hm:=G.hm
  have hQ:=G.hq
  refine ⟨_,((2<|>zaU.nd<|>(h__law_raised<$>(((pv 0)⊃zax)>=>(pv 1)>=>zab)))<=<(3<|>zaU.nd<|>((ybN rfl)<*("list",zbl,((@ydo _ _ _ _ _ rfl (B "range" (by decide)) (((pv 0)⊃zax)>=>zab) (by rfl))>=>zab))))<=<(~~~((["_law_one"]⊆(["_law_table_here","_law_high"],[0,2],["_law_table_here","_law_few","_law_high","_law_some"],zaN,(@zaI _ _ _ _ (pv 3)),(0⊇["_law_one","_law_table_here","_law_high"]),(@zbE _ _ _ (ybJ∪(h__law_power<$>((pv 1)>=>(pv 0)>=>(pv 2)>=>zab))∪(pv 0))),(pv 0)))⁻¹))),?_⟩
  refine ⟨_,rfl,tb,_,rfl,T.get zdU,_,rfl,p,few,rfl,p_le hp hm hQ,by omega,?_⟩
  refine ⟨_,rfl,tb,_,rfl,T.get zce,_,rfl,fun rg hrg=>?_⟩
  refine ⟨rg,0,((p^m:Nat):Int),rfl,zaa,⟨by decide,by decide,by omega,by omega⟩,szl _ (by omega),fun so hso=>?_⟩
  have eI:L2.intsFrom 0 (((p^m:Nat):Int)-0).toNat=(List.range (p^m)).map Vn:=by
    rw [Int.sub_zero,Int.toNat_natCast]
    unfold L2.intsFrom
    refine List.map_congr_left fun i _=>?_
    rw [Int.zero_add]
  rw [eI]
  have s1:=(yaa hrg (.rng 0 ((p^m:Nat):Int))).trans (yaa hso (.lst ((List.range (p^m)).map Vn)))
  have e1:upd (upd H rg (.rng 0 ((p^m:Nat):Int))) so (.lst ((List.range (p^m)).map Vn)) so=some (.lst ((List.range (p^m)).map Vn)):=zaa
  dsimp only [yan]
  generalize upd (upd H rg (.rng 0 ((p^m:Nat):Int))) so (.lst ((List.range (p^m)).map Vn))=H1 at s1 e1 ⊢
  have T1:=T.same s1
  refine ⟨_,rfl,so,rfl,⟨_,SqL.of e1⟩,?_⟩
  refine yak (yaD (xs:=(List.range (p^m)).map Vn)) (fun k acc H'=>H'=H1∧acc=(((List.range k).filter fun x=>decide (pw p m t x (p^few)=x)).map Vn)) ⟨rfl,rfl⟩ (fun i acc H' _ h=>by rw [h.1];exact SqL.of e1) ?_ ?_ ?_
  · rintro k acc H' hk ⟨_,rfl⟩
    have:=List.length_filter_le (fun x=>decide (pw p m t x (p^few)=x)) (List.range k)
    rw [List.length_range] at this
    rw [List.length_map,List.length_range] at hk
    rw [List.length_map];exact zaf (by omega)
  · rintro k acc x H' H'' hk ⟨rfl,rfl⟩ ⟨rfl,ez⟩
    rw [List.length_map,List.length_range] at hk
    rw [List.getElem?_map,List.getElem?_range hk] at ez
    cases ez
    refine ⟨_,rfl,_,rfl,_,rfl,tb,fa,pa,la,p,m,t,b,k,((p^few:Nat):Int),rfl,T1,hk,?_⟩
    rw [zeX G hk]
    refine ⟨_,rfl,rfl,_,rfl,?_⟩
    have ed:decide (Vn (pw p m t k (p^few))=Vn k)=decide (pw p m t k (p^few)=k):=decide_eq_decide.mpr ⟨fun e=>Int.ofNat.inj (V.int.inj e),fun e=>by rw [e]⟩
    rw [ed,List.range_succ,List.filter_append]
    refine ite2 (fun c=>?_) (fun c=>?_)
    · have c':pw p m t k (p^few)=k:=of_decide_eq_true c
      refine ⟨_,rfl,rfl,?_⟩
      rw [List.map_append]
      simp [c']
    · have c':¬ pw p m t k (p^few)=k:=fun h=>c (decide_eq_true h)
      refine ⟨rfl,?_⟩
      simp [c']
  · rintro acc H2 ⟨rfl,rfl⟩ D hD
    rw [List.length_map,List.length_range]
    exact q D _ (s1.trans (yaa hD _)) (s1.free hD) zaa
theorem yaq:yai ["_law_table_here","_law_wheel_here","_law_row","_law_mark","_law_root","_law_moved","_law_place","_law_thing"] ["_law_table_here","_law_wheel_here"] (yac ybp):=⟨rfl,rfl,rfl,by decide +kernel,rfl,by decide +kernel,by decide +kernel⟩
theorem zeQ (B:Bl mg) (h__law_power:Has P w K mg base 1 "_law_power" ["_law_table_here","_law_one","_law_many"] ycd) (h__law_minus:Has P w K mg base 2 "_law_minus" ["_law_table_here","_law_one","_law_other"] yck) (h__law_times:Has P w K mg base 1 "_law_times" ["_law_table_here","_law_one","_law_other"] zbb) (F:Fun K "_law_maker" "_law_maker" ybp f fd):FnOk P w K mg base CX0 3 f fd ["_law_table_here","_law_wheel_here"] zci:=by
  refine F.ok yaq (fun vs H Q E h=>?_) (fun cdv A outer s H vs Q E hr h=>?_)
  · obtain ⟨tb,fa,pa,la,wh,mk,p,m,t,b,few,root,marks,rfl,_⟩:=h;rfl
  obtain ⟨tb,fa,pa,la,wh,mk,p,m,t,b,few,root,marks,rfl,T,hW,hr',hml,q⟩:=h
  have G:=T.good
  have hp:=G.hp
  have hm:=G.hm
  refine ⟨_,((2<|>yaq.nd<|>(@yam _ _ _ _ (yab>=>zab)))<=<((@zeN _ _ _ _ (yas<<<(pv 1)<<<yab))<&>((3&&&yaq.nd),((4<|>yaq.nd<|>(h__law_power<$>((pv 0)>=>(yas<<<(pv 1)<<<yab)>=>(pv 3)>=>zab)))<=<(5<|>yaq.nd<|>(ybU|||(@yam _ _ _ _ (yab>=>zab))|||(pv 2)))<=<((@zb3 _ _ _ _ _ _ _ _ rfl (B "enumerate" (by decide)) ((pv 2)>=>zab) (by rfl))<&>((@zck _ _ _ _ _ _ rfl ((6&&&yaq.nd)∩((7&&&yaq.nd)∩yax)) (by rfl) (by rfl)),(~~~(@zco _ _ _ _ _ _ (h__law_minus<$>((pv 0)>=>(zai<<<(pv 5)<<<(pv 6))>=>(h__law_times<$>((pv 0)>=>(pv 4)>=>(pv 7)>=>zab))>=>zab)) (@ycH _ _ _ _ _ _ _ (pv 5) (pv 6) zbD (by intro _;rfl)) (by rfl) (by rfl) (by rfl)))))<=<(~~~(2<|>yaq.nd<|>(pv 5))))))<=<(~~~((pv 2)⁻¹))),?_⟩
  refine ⟨szl 1,fun r0 hr0=>?_⟩
  have s1:=yaa hr0 (.lst [.int 1])
  have e1:upd H r0 (.lst [.int 1]) r0=some (.lst ((mkL p m t root []).map Vn)):=zaa
  dsimp only [yan]
  generalize upd H r0 (.lst [.int 1])=H1 at s1 e1 ⊢
  have hW1:=hW.same s1
  refine ⟨_,rfl,wh,_,_,.ref mk,rfl,rfl,SqT.of hW1.w,rfl,mk,rfl,⟨_,SqT.of hW1.k⟩,?_⟩
  refine ybm (yc9 (xs:=marks.map Vn)) (fun i σ H'=>Same H H'∧∃(rr:Addr) (s3 s4 s5 s6 s7:Option V),H rr=none∧H' rr=some (.lst ((mkL p m t root (marks.take i)).map Vn))∧σ=[some (.ref tb),some (.ref wh),some (.ref rr),s3,s4,s5,s6,s7]) ⟨s1,r0,none,none,none,none,none,hr0,e1,rfl⟩ (fun i σ H' _ h=>SqT.of (h.1 _ _ hW.k)) ?_ ?_
  · rintro i z σ H2 H2' hi ⟨s2,rr,s3,s4,s5,s6,s7,nrr,e2,rfl⟩ ⟨rfl,ez⟩
    rw [List.length_map] at hi
    have hk:marks[i]?=some (marks.getD i 0):=by rw [List.getElem?_eq_getElem hi];simp [List.getD,hi]
    rw [yaQ hi] at ez
    cases ez
    have T2:=T.same s2
    refine ⟨_,rfl,_,rfl,wh,_,_,Vn root,rfl,rfl,SqT.of (s2 _ _ hW.w),rfl,_,rfl,tb,fa,pa,la,p,m,t,b,root,(((marks.getD i 0):Nat):Int),rfl,T2,hr',?_⟩
    rw [zeX G hr']
    dsimp only [yan]
    have hrow:=ycm (root:=root) G (marks.take i)
    have hrl:(mkL p m t root (marks.take i)).length≤65:=by rw [yaU,List.length_take];omega
    have etk:=zfX (p:=p) (m:=m) (t:=t) (root:=root) hk
    rw [etk]
    generalize mkL p m t root (marks.take i)=row at e2 hrow hrl ⊢
    have hpr:=zaA (t:=t) hp hm root (marks.getD i 0)
    generalize pw p m t root (marks.getD i 0)=rt at hpr ⊢
    have hpos:=zah hp hm
    refine ⟨szl 1,fun z1 hz1=>?_⟩
    have t1:=yaa hz1 (.lst [.int 0])
    refine ⟨_,rfl,z1,rr,_,_,rfl,rfl,zaa,t1 _ _ e2,by rw [List.length_map];exact szl _ (by simp;omega),fun l1 hl1=>?_⟩
    have t2:=yaa hl1 (.lst ([.int 0]++row.map Vn))
    have f2:upd (upd H2' z1 (.lst [.int 0])) l1 (.lst ([.int 0]++row.map Vn)) l1=some (.lst ((mkP p m t rt row 0).map Vn)):=by rw [yfE];exact zaa
    have e2':=t2 _ _ (t1 _ _ e2)
    have s4':=s2.trans (t1.trans t2)
    have nl1:H l1=none:=(s2.trans t1).free hl1
    have nrl:rr≠l1:=zac (t1 _ _ e2) hl1
    dsimp only [yan]
    generalize upd (upd H2' z1 (.lst [.int 0])) l1 (.lst ([.int 0]++row.map Vn))=H3 at f2 e2' s4' ⊢
    have q1:∀x∈(0::row),x<p^m:=fun x hx=>by
      rcases List.mem_cons.mp hx with rfl|h
      · exact hpos
      · exact hrow x h
    refine ⟨_,rfl,false,rr,rfl,⟨_,SqL.of e2'⟩,?_⟩
    refine ybm (ya9 (b:=false) (xs:=row.map Vn)) (fun j σ H'=>Same H H'∧H' rr=some (.lst (row.map Vn))∧H' l1=some (.lst ((mkP p m t rt row j).map Vn))∧∃s6 s7,σ=[some (.ref tb),some (.ref wh),some (.ref rr),some (Vn (marks.getD i 0)),some (Vn rt),some (.ref l1),s6,s7]) ⟨s4',e2',f2,_,_,rfl⟩ (fun i σ H' _ h=>SqL.of h.2.1) ?_ ?_
    · rintro j z σ H4 H5 hj ⟨s5',e4,f4,s6',s7',rfl⟩ ⟨Tt,u,rfl,eu,hT,rfl⟩
      rw [List.length_map] at hj
      rw [yaQ hj] at eu
      cases eu
      have sT:=yaa hT (.tup [.int (j:Int),Vn (row.getD j 0)])
      have s6:=s5'.trans sT
      have e5:=sT _ _ e4
      have f5:=sT _ _ f4
      have T5:=T.same s6
      have hj0:=zbn q1 (i:=j) (by simp;omega)
      refine ⟨Tt,_,rfl,SqT.of zaa,rfl,_,_,rfl,_,_,rfl,rfl,?_⟩
      refine ⟨_,rfl,_,rfl,_,rfl,l1,_,_,Vn ((0::row).getD j 0),rfl,rfl,SqL.of f5,?_,?_⟩
      · rw [←ygM (p:=p) (m:=m) (t:=t) (r:=rt) hj]
        exact zaW (yaQ (by rw [zfl];omega))
      refine ⟨_,rfl,_,rfl,_,rfl,tb,fa,pa,la,p,m,t,b,rt,row.getD j 0,rfl,T5,hpr,zbn hrow hj,?_⟩
      refine ⟨tb,fa,pa,la,p,m,t,b,(0::row).getD j 0,_,rfl,T5,hj0,zap hp hm _ _,?_⟩
      refine ⟨_,rfl,_,rfl,l1,_,_,j,rfl,rfl,f5,?_,?_⟩
      · rw [List.length_map,zfl]
        show ixN (row.length+1) ((j:Nat):Int)=_
        unfold ixN;rw [if_pos (by omega),if_pos (by omega)];rfl
      · rw [←List.map_set,ygn hj]
        exact ⟨ydb s6 nl1,by rw [zad nrl];exact e5,zaa,_,_,rfl⟩
    · rw [List.length_map,zgE G hrow]
      rintro σ H4 ⟨s5',e4,f4,s6',s7',rfl⟩
      exact ⟨_,rfl,s5',l1,_,_,_,_,_,nl1,f4,rfl⟩
  · rw [List.length_map]
    rintro σ H2 ⟨s2,rr,s3,s4,s5,s6,s7,nrr,e2,rfl⟩
    rw [List.take_length] at e2
    exact ⟨_,rfl,q rr _ s2 nrr e2⟩
theorem yhc {z:Addr} {H:Hp} {n:Nat} {k:Int} {Q:V→Hp→Prop} (hz:H z=some (.tup [V.int 0])) (hk:k=(n:Int)) (hn:n≤1000) (h:∀r H',Same H H'→H' r=some (.tup ((List.replicate n 0).map Vn))→Q (.ref r) H'):zgV K (.ref z) (.int k) H Q:=by
  subst hk
  refine ⟨z,_,_,rfl,rfl,SqT.of hz,by simp,by omega,by omega,by rw [Int.toNat_natCast];simp;exact szl _ (by omega),fun k1=>?_,fun k1 p1 hp1=>?_⟩
  · have e:n=1:=by omega
    subst e
    exact h z H (Same.refl _) hz
  · rw [Int.toNat_natCast,zaV]
    exact h p1 _ (yaa hp1 _) zaa
inductive ydM (K:PySem.W.Frag) (vs:List V) (H:Hp) (Q:VK) (E:XK):Prop
  | mk (tb fa pa la a b:Addr) (p m t c:Nat) (xs ys:List Nat) (c1:vs=[.ref tb,.ref a,.ref b]) (c2:Tab H tb fa pa la p m t c) (c3:H a=some (.tup (xs.map Vn))) (c4:H b=some (.lst (ys.map Vn))) (c5:xs.length≤100) (c6:(∀x∈xs,x<p^m)) (c7:(∀y∈ys,y<p^m)) (c8:∀r H',Same H H'→H r=none→H' r=some (.tup ((addL p m xs ys).map Vn))→Q (.ref r) H'):ydM K vs H Q E
theorem zcU:yai ["_law_table_here","_law_one","_law_other"] ["_law_table_here","_law_one","_law_other"] (yac ya3):=⟨rfl,rfl,rfl,by decide +kernel,rfl,by decide +kernel,by decide +kernel⟩
theorem ygo (B:Bl mg) (h__law_plus:Has P w K mg base 1 "_law_plus" ["_law_table_here","_law_one","_law_other"] ycb) (F:Fun K "_law_added" "_law_added" ya3 f fd):FnOk P w K mg base CX0 2 f fd ["_law_table_here","_law_one","_law_other"] (ydM K):=by
  refine F.ok zcU (fun vs H Q E h=>?_) (fun cdv A outer s H vs Q E hr h=>?_)
  · obtain ⟨tb,fa,pa,la,a,b,p,m,t,c,xs,ys,rfl,_⟩:=h;rfl
  obtain ⟨tb,fa,pa,la,a,b,p,m,t,c,xs,ys,rfl,T,ha,hb,hl,hx,hy,q⟩:=h
  refine ⟨_,(~~~((zav<*("tuple",yau,((["_law_a","_law_b"]⊆(["_law_table_here"],[0],["_law_table_here","_law_one","_law_other"],ya3,(@zdn _ _ _ _ _ _ _ _ _ rfl (B "zip" (by decide)) ((pv 1)>=>(pv 2)>=>zab) (by rfl) (by rfl)),(@zbY _ _ _ _ 2 _ K rfl rfl ((0⊇["_law_a","_law_b","_law_table_here"])∩((1⊇["_law_a","_law_b","_law_table_here"])∩yax)) (by rfl) (by rfl)),yaw,(h__law_plus<$>((pv 2)>=>(pv 0)>=>(pv 1)>=>zab))))>=>zab)))⁻¹)),?_⟩
  refine ⟨_,rfl,_,rfl,true,false,a,b,rfl,⟨_,SqT.of ha⟩,⟨_,SqL.of hb⟩,?_⟩
  refine yak (zbU (b1:=true) (b2:=false) (xs:=xs.map Vn) (ys:=ys.map Vn)) (fun k acc H'=>Same H H'∧acc=((List.range k).map fun i=>add p m (xs.getD i 0) (ys.getD i 0)).map Vn) ⟨Same.refl _,rfl⟩ (fun i acc H' _ h=>⟨SqT.of (h.1 _ _ ha),SqL.of (h.1 _ _ hb)⟩) ?_ ?_ ?_
  · rintro k acc H' hk ⟨_,rfl⟩
    rw [List.length_map,List.length_map] at hk
    rw [List.length_map,List.length_map,List.length_range];exact zaf (by omega)
  · rintro k acc z H1 H2 hk ⟨s1,rfl⟩ ⟨Tt,u,v,rfl,eu,ev,hT,rfl⟩
    rw [List.length_map,List.length_map] at hk
    rw [yaQ (by omega)] at eu ev
    cases eu;cases ev
    refine ⟨Tt,_,rfl,SqT.of zaa,rfl,_,_,rfl,_,_,rfl,rfl,?_⟩
    have s2:=s1.trans (yaa hT (.tup [Vn (xs.getD k 0),Vn (ys.getD k 0)]))
    refine ⟨_,rfl,_,rfl,_,rfl,tb,fa,pa,la,p,m,t,c,xs.getD k 0,ys.getD k 0,rfl,T.same s2,zbn hx (by omega),zbn hy (by omega),?_⟩
    refine ⟨s2,?_⟩
    rw [List.range_succ,List.map_append,List.map_append];rfl
  · rw [List.length_map,List.length_map]
    rintro acc H1 ⟨s1,rfl⟩ D hD
    refine ⟨D,_,rfl,.inl ⟨SqL.of zaa,fun r hr=>?_⟩⟩
    have s2:=s1.trans (yaa hD (.lst ((addL p m xs ys).map Vn)))
    exact q r _ (s2.trans (yaa hr _)) (s2.free hr) zaa
theorem WOk.one {p m t root n:Nat} {marks:List Nat} (G:Good p m t):WOk p m t root n marks [List.replicate n 0]:=fun w hw=>by
  rw [List.mem_singleton.mp hw]
  refine ⟨by simp,fun x hx=>by rw [(List.mem_replicate.mp hx).2];exact zah G.hp G.hm,fun k _=>?_⟩
  have:=zc6 G (x:=pw p m t root k) n 0 (row:=[]) rfl
  unfold padL at this
  simpa using this
theorem WOk.more {p m t root n:Nat} {marks:List Nat} (G:Good p m t) {ws:List (List Nat)} {c:Nat} {part:List Nat} (h:WOk p m t root n marks ws) (hl:part.length=n) (hp:∀x∈part,x<p^m) (hz:∀k∈marks,val p m t (pw p m t root k) part=0):WOk p m t root n marks (ws.map fun w=>addL p m w (yar p m t c part)):=fun v hv=>by
  obtain ⟨w,hw,rfl⟩:=List.mem_map.mp hv
  obtain ⟨h1,h2,h3⟩:=h w hw
  have lp:(yar p m t c part).length=n:=by simp [yar];exact hl
  refine ⟨zcc h1 lp,zdN G _ _,fun k hk=>?_⟩
  have hx:=zaA (t:=t) G.hp G.hm root k
  rw [yeb G hx h1 lp h2 (ycc G c part),h3 k hk,zdi G hx hp,hz k hk,mul_zero G.hp G.hm,add_zero G.hp G.hm (zah G.hp G.hm)]
theorem yaW {p m t root n:Nat} {marks:List Nat} {few:Nat} (G:Good p m t):∀k,k≤n-marks.length→WOk p m t root n marks (lwL p m t root n marks few k)
  | 0,_=>WOk.one G
  | k+1,hk=>fun u hu=>by
    obtain ⟨c,_,h⟩:=List.mem_flatMap.mp hu
    exact WOk.more G (yaW G k (by omega)) (zdo (by omega)) (ygd G (ycm G _)) (fun k' hk'=>zc6 G _ _ (yca G hk')) u h
inductive zcu (vs:List V) (H:Hp) (Q:VK) (E:XK):Prop
  | mk (tb fa pa la wh mk:Addr) (p m t b few root n:Nat) (marks:List Nat) (c1:vs=[.ref tb,.ref wh]) (c2:Tab H tb fa pa la p m t b) (c3:WhAt H wh fa mk few root marks) (c4:1≤few) (c5:few≤6) (c6:m%few=0) (c7:0<root) (c8:root<p^m) (c9:Ord p m t root n) (c10:n≤64) (c11:marks.length≤n) (c12:(p^few)^(n-marks.length)≤4096) (c13:∀r (ds:List Addr) H',Same H H'→H' r=some (.lst (ds.map V.ref))→Tups H' ds (lwL p m t root n marks few (n-marks.length))→Q (.ref r) H'):zcu vs H Q E
theorem zak:yai ["_law_table_here","_law_wheel_here","_law_n","_law_row","_law_some","_law_found","_law_move","_law_part","_law_more","_law_letter","_law_more_times"] ["_law_table_here","_law_wheel_here"] (yac yaO):=⟨rfl,rfl,rfl,by decide +kernel,rfl,by decide +kernel,by decide +kernel⟩
theorem yeM (B:Bl mg) (h__law_round:Has P w K mg base 2 "_law_round" ["_law_table_here","_law_one"] zaP) (h__law_maker:Has P w K mg base 3 "_law_maker" ["_law_table_here","_law_wheel_here"] zci) (h__law_letters:Has P w K mg base 2 "_law_letters" ["_law_table_here","_law_few"] zbJ) (h__law_times:Has P w K mg base 1 "_law_times" ["_law_table_here","_law_one","_law_other"] zbb) (h__law_added:Has P w K mg base 2 "_law_added" ["_law_table_here","_law_one","_law_other"] (ydM K)) (F:Fun K "_law_words" "_law_words" yaO f fd):FnOk P w K mg base CX0 4 f fd ["_law_table_here","_law_wheel_here"] zcu:=by
  refine F.ok zak (fun vs H Q E h=>?_) (fun cdv A outer s H vs Q E hr h=>?_)
  · obtain ⟨tb,fa,pa,la,wh,mk,p,m,t,b,few,root,n,marks,rfl,_⟩:=h;rfl
  obtain ⟨tb,fa,pa,la,wh,mk,p,m,t,b,few,root,n,marks,rfl,T,hW,hf1,hf6,hfm,r0,rq,ord,hn,hml,hsz,ret⟩:=h
  have G:=T.good
  have hp:=G.hp
  have hm:=G.hm
  have hQ:=G.hq
  have hlets:=yfp G hfm hf1
  have hq1:1≤p^few:=Nat.pow_pos (by omega)
  have ml:=yaU p m t root marks
  refine ⟨_,((@zbP _ _ 2 3 _ _ _ _ _ _ _ _ _ _ _ rfl zak.nd rfl rfl (by decide) rfl rfl ((h__law_round<$>((pv 0)>=>(yas<<<(pv 1)<<<yab)>=>zab))>=>(h__law_maker<$>((pv 0)>=>(pv 1)>=>zab))>=>zab) rfl (by rfl))<=<(4<|>zak.nd<|>(h__law_letters<$>((pv 0)>=>(yas<<<(pv 1)<<<yab)>=>zab)))<=<(5<|>zak.nd<|>(@yam _ _ _ _ ((ygA|||(@ybb _ _ _ _ _ (yab>=>zab))|||(pv 2))>=>zab)))<=<((↑((zaH|||(pv 2)|||(yal>>>("len",PySem.boot_len,((yas<<<(pv 1)<<<yab)>=>zab))))>=>zab))<&>((6&&&zak.nd),((7<|>zak.nd<|>(ybU|||(ybU|||(zcm|||(@yam _ _ _ _ (yab>=>zab))|||(pv 6))|||(pv 3))|||(zcm|||(@yam _ _ _ _ (yab>=>zab))|||(zaH|||(zaH|||(pv 2)|||(pv 6))|||(yal>>>("len",PySem.boot_len,((pv 3)>=>zab)))))))<=<(8<|>zak.nd<|>(@yam _ _ _ _ zab))<=<((@zaI _ _ _ _ (pv 4))<&>((9&&&zak.nd),((10<|>zak.nd<|>(["_law_thing"]⊆(["_law_table_here","_law_letter"],[0,9],["_law_table_here","_law_wheel_here","_law_n","_law_row","_law_some","_law_found","_law_move","_law_part","_law_more","_law_letter","_law_more_times"],yaO,(@zaI _ _ _ _ (pv 7)),(0⊇["_law_thing","_law_table_here","_law_letter"]),yaw,(h__law_times<$>((pv 1)>=>(pv 2)>=>(pv 0)>=>zab)))))<=<(~~~(@zbW _ _ _ _ (@zet _ _ _ _ _ _ _ _ _ _ _ _ PySem.F.plainAttrs_list PySem.F.slot_list_extend PySem.F.type_list_extend ze5 (pv 8) ((["_law_word"]⊆(["_law_table_here","_law_more_times"],[0,10],["_law_table_here","_law_wheel_here","_law_n","_law_row","_law_some","_law_found","_law_move","_law_part","_law_more","_law_letter","_law_more_times"],yaO,(@zaI _ _ _ _ (pv 5)),(0⊇["_law_word","_law_table_here","_law_more_times"]),yaw,(h__law_added<$>((pv 1)>=>(pv 0)>=>(pv 2)>=>zab))))>=>zab) (by rfl) (by rfl) (by rfl) (by rfl) (by rfl)) (by rfl))))))<=<(~~~(5<|>zak.nd<|>(pv 8))))))<=<(~~~((pv 5)⁻¹))),?_⟩
  refine ⟨_,rfl,_,rfl,wh,_,_,Vn root,rfl,rfl,SqT.of hW.w,rfl,tb,fa,pa,la,p,m,t,b,root,rfl,T,r0,rq,fun n' o' _=>?_⟩
  cases o'.uniq ord
  refine ⟨_,rfl,_,rfl,tb,fa,pa,la,wh,mk,p,m,t,b,few,root,marks,rfl,T,hW,rq,by omega,fun mr H1 s1 _ e1=>?_⟩
  refine ⟨_,_,rfl,?_⟩
  refine ⟨_,rfl,_,rfl,wh,_,_,Vn few,rfl,rfl,SqT.of (hW.same s1).w,rfl,tb,fa,pa,la,p,m,t,b,few,rfl,T.same s1,hf6,fun so H2 s2 _ e2=>?_⟩
  refine ⟨szl 1,fun z hz=>?_⟩
  refine ⟨_,rfl,yhc zaa rfl (by omega) fun z1 H3 s3 e3=>?_⟩
  refine ⟨szl 1,fun fl hfl=>?_⟩
  have sF:=((yaa hz (.tup [V.int 0])).trans s3).trans (yaa hfl (.lst [.ref z1]))
  have s4:=(s1.trans s2).trans sF
  have eM:=sF _ _ (s2 _ _ e1)
  have eS:=sF _ _ e2
  have eF:upd H3 fl (.lst [.ref z1]) fl=some (.lst ([z1].map V.ref)):=zaa
  have eZ:Tups (upd H3 fl (.lst [.ref z1])) [z1] [List.replicate n 0]:=⟨rfl,fun i d e=>by
    have:i=0:=by have:=(List.getElem?_eq_some_iff.mp e).1;simp at this;omega
    subst this
    cases e
    exact ⟨_,rfl,yaa hfl _ _ _ e3⟩⟩
  dsimp only [yan]
  generalize upd H3 fl (.lst [.ref z1])=H4 at sF s4 eM eS eF eZ ⊢
  clear e3 s3
  have hW4:=hW.same s4
  refine ⟨_,rfl,_,rfl,wh,_,_,.ref mk,rfl,rfl,SqT.of hW4.w,rfl,mk,_,rfl,.inr (SqT.of hW4.k),_,_,rfl,rfl,((n-marks.length:Nat):Int),?_,by omega,by omega,?_⟩
  · rw [List.length_map]
    show [V.int ((n:Int)-(marks.length:Int))]=_
    rw [show (n:Int)-(marks.length:Int)=((n-marks.length:Nat):Int) by omega]
  refine yaz (lo:=0) (n:=((n-marks.length:Nat):Int).toNat) (fun k σ H'=>Same H4 H'∧∃(fl:Addr) (ds:List Addr) (s6 s7 s8 s9 s10:Option V),H' fl=some (.lst (ds.map V.ref))∧Tups H' ds (lwL p m t root n marks few k)∧σ=[some (.ref tb),some (.ref wh),some (Vn n),some (.ref mr),some (.ref so),some (.ref fl),s6,s7,s8,s9,s10]) ⟨Same.refl _,fl,[z1],none,none,none,none,none,eF,eZ,rfl⟩ ?_ ?_
  · rintro k σ H5 hk ⟨s5,fl,ds,s6,s7,s8,s9,s10,ef,hT,rfl⟩
    rw [Int.toNat_natCast] at hk
    have hw:=yaW (root:=root) (marks:=marks) (few:=few) G k (Nat.le_of_lt hk)
    have hwl:(lwL p m t root n marks few k).length≤(p^few)^k:=by rw [zcv];exact Nat.pow_le_pow_left hlets k
    obtain ⟨ws,ews⟩:∃ws,ws=lwL p m t root n marks few k:=⟨_,rfl⟩
    rw [←ews] at hw hwl hT
    have eM5:=s5 _ _ eM
    have eS5:=s5 _ _ eS
    refine ⟨szl 1,fun z hz=>?_⟩
    have t1:=yaa hz (.lst [V.int 0])
    refine ⟨_,rfl,z,_,_,rfl,rfl,zaa,by omega,by omega,by rw [show (0+(k:Int)).toNat=k by omega];exact szl _ (by simp;omega),fun l1 hl1=>?_⟩
    rw [show (0+(k:Int)).toNat=k by omega,zaV]
    have t2:=t1.trans (yaa hl1 (.lst ((List.replicate k 0).map Vn)))
    have g1:upd (upd H5 z (.lst [V.int 0])) l1 (.lst ((List.replicate k 0).map Vn)) l1=some (.lst ((List.replicate k 0).map Vn)):=zaa
    generalize upd (upd H5 z (.lst [V.int 0])) l1 (.lst ((List.replicate k 0).map Vn))=H6 at t2 g1 ⊢
    refine ⟨_,rfl,l1,mr,_,_,rfl,rfl,g1,t2 _ _ eM5,by rw [List.length_map,List.length_map,List.length_replicate,ml];exact szl _ (by omega),fun l2 hl2=>?_⟩
    rw [←List.map_append]
    have t3:=t2.trans (yaa hl2 (.lst ((List.replicate k 0++mkL p m t root marks).map Vn)))
    have g2:upd H6 l2 (.lst ((List.replicate k 0++mkL p m t root marks).map Vn)) l2=some (.lst ((List.replicate k 0++mkL p m t root marks).map Vn)):=zaa
    generalize upd H6 l2 (.lst ((List.replicate k 0++mkL p m t root marks).map Vn))=H7 at t3 g2 ⊢
    refine ⟨szl 1,fun z2 hz2=>?_⟩
    have t4:=yaa hz2 (.lst [V.int 0])
    refine ⟨_,rfl,_,rfl,_,_,rfl,rfl,_,rfl,mr,_,rfl,.inl (SqL.of (t4 _ _ (t3 _ _ eM5))),_,_,rfl,rfl,?_⟩
    have ec:((n:Int)-(0+(k:Int))-(((mkL p m t root marks).map Vn).length:Int))=((n-k-(marks.length+1):Nat):Int):=by rw [List.length_map,ml];omega
    refine ⟨z2,_,_,rfl,rfl,zaa,?_⟩
    rw [ec]
    refine ⟨by omega,by omega,by rw [Int.toNat_natCast];exact szl _ (by simp;omega),fun l3 hl3=>?_⟩
    rw [Int.toNat_natCast,zaV]
    have t5:=t4.trans (yaa hl3 (.lst ((List.replicate (n-k-(marks.length+1)) 0).map Vn)))
    have g3:upd (upd H7 z2 (.lst [V.int 0])) l3 (.lst ((List.replicate (n-k-(marks.length+1)) 0).map Vn)) l3=some (.lst ((List.replicate (n-k-(marks.length+1)) 0).map Vn)):=zaa
    generalize upd (upd H7 z2 (.lst [V.int 0])) l3 (.lst ((List.replicate (n-k-(marks.length+1)) 0).map Vn))=H8 at t5 g3 ⊢
    refine ⟨l2,l3,_,_,rfl,rfl,t5 _ _ g2,g3,by simp only [List.length_map,List.length_append,List.length_replicate,ml];exact szl _ (by omega),fun pt hpt=>?_⟩
    rw [←List.map_append]
    have t6:=(t3.trans t5).trans (yaa hpt (.lst ((mvL p m t root n marks k).map Vn)))
    have ePt:upd H8 pt (.lst ((mvL p m t root n marks k).map Vn)) pt=some (.lst ((mvL p m t root n marks k).map Vn)):=zaa
    dsimp only [yan]
    change tSeq _ _ _ _ (upd H8 pt (.lst ((mvL p m t root n marks k).map Vn)))
    generalize upd H8 pt (.lst ((mvL p m t root n marks k).map Vn))=H9 at t6 ePt ⊢
    have s9':=s5.trans t6
    have hT9:=hT.same t6
    have ef9:=t6 _ _ ef
    have eS9:=t6 _ _ eS5
    have lpt:=zdo (p:=p) (m:=m) (t:=t) (root:=root) (marks:=marks) hk
    have hpt':∀x∈mvL p m t root n marks k,x<p^m:=ygd G (ycm G _)
    have hpz:∀k'∈marks,val p m t (pw p m t root k') (mvL p m t root n marks k)=0:=fun k' hk'=>zc6 G _ _ (yca G hk')
    clear t1 t2 t3 t4 t5 t6 g1 g2 g3
    have hwl2:ws.length≤4096:=Nat.le_trans hwl (Nat.le_trans (Nat.pow_le_pow_right hq1 (by omega)) hsz)
    have hnext:(p^few)^(k+1)≤4096:=Nat.le_trans (Nat.pow_le_pow_right hq1 (by omega)) hsz
    have hmore:∀j,j≤(lets p m t few).length→j*ws.length≤(p^few)^(k+1):=fun j hj=>by
      rw [Nat.pow_succ,Nat.mul_comm]
      exact Nat.mul_le_mul hwl (Nat.le_trans hj hlets)
    refine ⟨szl 0,fun mo hmo=>?_⟩
    have sm:=yaa hmo (.lst [])
    dsimp only [yan]
    refine ⟨_,rfl,so,rfl,⟨_,SqL.of (sm _ _ eS9)⟩,?_⟩
    refine ydc (xs:=(lets p m t few).map Vn) (fun j σ H'=>Same H9 H'∧∃(es:List Addr) (s9 s10:Option V),H' mo=some (.lst (es.map V.ref))∧Tups H' es (((lets p m t few).take j).flatMap fun c=>ws.map fun u=>addL p m u (yar p m t c (mvL p m t root n marks k)))∧σ=[some (.ref tb),some (.ref wh),some (Vn n),some (.ref mr),some (.ref so),some (.ref fl),some (.int (0+(k:Int))),some (.ref pt),some (.ref mo),s9,s10]) ⟨sm,[],_,_,zaa,⟨rfl,fun i d e=>by simp at e⟩,rfl⟩ (fun i σ H' _ h=>SqL.of (h.1 _ _ eS9)) ?_ ?_
    · rintro j x σ H10 hx ⟨s10',es,s9x,s10x,em,hTv,rfl⟩
      obtain ⟨c,ec',rfl⟩:∃c,(lets p m t few)[j]?=some c∧x=Vn c:=by
        rw [List.getElem?_map] at hx
        cases e:(lets p m t few)[j]? with
        | none=>rw [e] at hx;cases hx
        | some a=>rw [e] at hx;cases hx;exact ⟨a,rfl,rfl⟩
      have hj:j<(lets p m t few).length:=(List.getElem?_eq_some_iff.mp ec').1
      have hc:=zao c (List.mem_of_getElem? ec')
      have T10:=T.same (s4.trans (s9'.trans s10'))
      have ePt10:=s10' _ _ ePt
      refine ⟨_,rfl,pt,rfl,⟨_,SqL.of ePt10⟩,?_⟩
      refine yak (yaD (xs:=(mvL p m t root n marks k).map Vn)) (fun i acc H'=>H'=H10∧acc=((List.range i).map fun i=>mul p m t c ((mvL p m t root n marks k).getD i 0)).map Vn) ⟨rfl,rfl⟩ (fun i acc H' _ h=>by rw [h.1];exact SqL.of ePt10) ?_ ?_ ?_
      · rintro i acc H' hi ⟨_,rfl⟩
        rw [List.length_map,lpt] at hi
        rw [List.length_map,List.length_map,List.length_range];exact zaf (by omega)
      · rintro i acc z H11 H12 hi ⟨rfl,rfl⟩ ⟨rfl,ez⟩
        rw [List.length_map] at hi
        rw [yaQ hi] at ez
        cases ez
        refine ⟨_,rfl,_,rfl,_,rfl,tb,fa,pa,la,p,m,t,b,c,(mvL p m t root n marks k).getD i 0,rfl,T10,hc,zbn hpt' hi,?_⟩
        refine ⟨rfl,?_⟩
        rw [List.range_succ,List.map_append,List.map_append];rfl
      rw [List.length_map]
      rintro acc H11 ⟨rfl,rfl⟩ D hD
      have sD:=yaa hD (.lst ((yar p m t c (mvL p m t root n marks k)).map Vn))
      have eD:upd H11 D (.lst ((yar p m t c (mvL p m t root n marks k)).map Vn)) D=some (.lst ((yar p m t c (mvL p m t root n marks k)).map Vn)):=zaa
      dsimp only [yan]
      change zgU _ _ _ (upd H11 D (.lst ((yar p m t c (mvL p m t root n marks k)).map Vn)))
      generalize upd H11 D (.lst ((yar p m t c (mvL p m t root n marks k)).map Vn))=H12 at sD eD ⊢
      have em12:=sD _ _ em
      have hT12:=hT9.same (s10'.trans sD)
      have ef12:=sD _ _ (s10' _ _ ef9)
      have T12:=T10.same sD
      refine ⟨_,rfl,.inl ⟨rfl,_,SqL.of em12⟩,?_⟩
      refine ⟨_,rfl,fl,rfl,⟨_,SqL.of ef12⟩,?_⟩
      refine yak (yaD (xs:=ds.map V.ref)) (fun i acc H'=>Same H12 H'∧∃gs:List Addr,acc=gs.map V.ref∧Tups H' gs ((ws.take i).map fun u=>addL p m u (yar p m t c (mvL p m t root n marks k)))) ⟨Same.refl _,[],rfl,⟨rfl,fun i d e=>by simp at e⟩⟩ (fun i acc H' _ h=>SqL.of (h.1 _ _ ef12)) ?_ ?_ ?_
      · rintro i acc H' hi ⟨_,gs,rfl,hG⟩
        have:=hG.1
        rw [List.length_map,List.length_take] at this
        rw [List.length_map];exact szl _ (show gs.length+1≤100000 by omega)
      · rintro i acc z H13 H14 hi ⟨s13,gs,rfl,hG⟩ ⟨rfl,ez⟩
        obtain ⟨d,ed,rfl⟩:=ycZ ez
        obtain ⟨u,eu,hu⟩:=hT12.2 i d ed
        have hwu:=hw u (List.mem_of_getElem? eu)
        refine ⟨_,rfl,_,rfl,_,rfl,tb,fa,pa,la,d,D,p,m,t,b,u,yar p m t c (mvL p m t root n marks k),rfl,T12.same s13,s13 _ _ hu,s13 _ _ eD,by omega,hwu.2.1,ycc G _ _,fun r H15 s15 _ e15=>?_⟩
        refine ⟨s13.trans s15,gs++[r],by simp,?_⟩
        rw [yaT eu,List.map_append]
        exact (hG.same s15).snoc e15
      rw [List.length_map,hT.1,List.take_length]
      rintro acc H13 ⟨s13,gs,rfl,hG⟩ D2 hD2
      have sD2:=yaa hD2 (.lst (gs.map V.ref))
      have em13:=sD2 _ _ (s13 _ _ em12)
      have hgl:=hG.1
      rw [List.length_map] at hgl
      have hvl:=hTv.1
      rw [yda,List.length_take,Nat.min_eq_left (Nat.le_of_lt hj)] at hvl
      have hvl2:=hmore (j+1) (by omega)
      rw [Nat.add_mul,Nat.one_mul] at hvl2
      refine ⟨mo,D2,_,_,rfl,rfl,em13,zaa,by rw [List.length_map,List.length_map,hvl,hgl];exact szl _ (by omega),?_⟩
      rw [←List.map_append]
      refine ⟨ydb (s10'.trans (sD.trans (s13.trans sD2))) hmo,es++gs,_,_,zaa,?_,rfl⟩
      rw [yaT ec',List.flatMap_append,List.flatMap_singleton]
      exact Tups.at (((hTv.same sD).same (s13.trans sD2)).app (hG.same sD2)) em13
    · rw [List.length_map]
      rintro σ H10 ⟨s10',es,s9x,s10x,em,hTv,rfl⟩
      rw [List.take_length,ews] at hTv
      exact ⟨_,rfl,s9'.trans s10',mo,es,_,_,_,_,_,em,hTv,rfl⟩
  · rw [Int.toNat_natCast]
    rintro σ H5 ⟨s5,fl,ds,s6,s7,s8,s9,s10,ef,hT,rfl⟩
    exact ⟨_,rfl,ret fl ds _ (s4.trans s5) ef hT⟩
theorem yd0:∀(n:Nat) (l:List Nat),l.Nodup→(∀x∈l,x<n)→l.length≤n
  | 0,[],_,_=>Nat.le_refl _
  | 0,x::_,_,h=>absurd (h x List.mem_cons_self) (by omega)
  | n+1,l,hd,h=>by
    have h1:=yd0 n (l.erase n) (hd.erase n) fun x hx=>by
      have:=(hd.mem_erase_iff).mp hx
      have:=h x this.2
      omega
    have:=List.length_erase_of_mem (a:=n) (l:=l)
    by_cases c:n∈l
    · rw [this c] at h1;omega
    · rw [List.erase_of_not_mem c] at h1;omega
theorem zeo {ns':List Int} {xs:List Nat} (h:ns'.Perm (xs.map fun n:Nat=>(n:Int))) (ha:ns'.Pairwise (·≤·)) (hd:xs.Nodup):∃ms:List Nat,ns'.map V.int=ms.map Vn∧ms.Pairwise (· < ·)∧∀x,x∈ms↔x∈xs:=by
  have hmem:∀i∈ns',∃n∈xs,(n:Int)=i:=fun i hi=>List.mem_map.mp (h.mem_iff.mp hi)
  have hn:ns'.Nodup:=h.nodup_iff.mpr (by
    rw [List.Nodup,List.pairwise_map]
    exact hd.imp fun hne e=>hne (Int.ofNat.inj e))
  refine ⟨ns'.map Int.toNat,?_,?_,fun x=>?_⟩
  · rw [List.map_map]
    refine List.map_congr_left fun i hi=>?_
    obtain ⟨n,_,rfl⟩:=hmem i hi
    rfl
  · rw [List.pairwise_map]
    refine List.Pairwise.imp_of_mem ?_ (ha.and hn)
    intro a b h1 h2 h3
    obtain ⟨n1,_,rfl⟩:=hmem a h1
    obtain ⟨n2,_,rfl⟩:=hmem b h2
    have:=h3.1
    have h4:=h3.2
    rw [Int.toNat_natCast,Int.toNat_natCast]
    have:n1≠n2:=fun e=>h4 (by rw [e])
    omega
  · rw [List.mem_map]
    constructor
    · rintro ⟨i,hi,rfl⟩
      obtain ⟨n,hn',rfl⟩:=hmem i hi
      exact hn'
    · intro hx
      exact ⟨(x:Int),h.mem_iff.mpr (List.mem_map.mpr ⟨x,hx,rfl⟩),rfl⟩
theorem zcO {n q:Nat} {ms:List Nat} (hl:∀x∈ms,x<n) (h:∀x∈ms,x*q%n∈ms) {x:Nat} (hx:x∈ms) (c:Nat):x*q^c%n∈ms:=by
  induction c with
  | zero=>rw [Nat.pow_zero,Nat.mul_one,Nat.mod_eq_of_lt (hl x hx)];exact hx
  | succ c ih =>
    have:=h _ ih
    rw [Nat.mod_mul_mod,Nat.mul_assoc,←Nat.pow_succ] at this
    exact this
inductive ycg (vs:List V) (H:Hp) (Q:VK) (E:XK):Prop
  | mk (pu g:Addr) (most L:Nat) (c1:vs=[.ref pu,Vn most,Vn L]) (c2:Pu H pu g) (c3:1≤most) (c4:1≤L) (c5:∀(r tb fa pa la wh mk:Addr) (p m t b few root n:Nat) (marks:List Nat) H',H' r=some (.tup [.ref tb,.ref wh])→Tab H' tb fa pa la p m t b→yfO pu g tb fa pa la→WhAt H' wh fa mk few root marks→(wh≠pu∧wh≠g)→(mk≠pu∧mk≠g)→Whl p m t few root n marks→(p^few)^(n-marks.length)≤L→Pu H' pu g→yaj pu g H H'→Q (.ref r) H'):ycg vs H Q E
theorem yag:yai ["_law_purse_here","_law_most","_law_listed","_law_table_here","_law_wheel_here","_law_n","_law_q","_law_marks","_law_spot","_law_turn","_law_mark"] ["_law_purse_here","_law_most","_law_listed"] (yac zaG):=⟨rfl,rfl,rfl,by decide +kernel,rfl,by decide +kernel,by decide +kernel⟩
theorem zfb (B:Bl mg) (h__law_wheel:Has P w K mg base 5 "_law_wheel" ["_law_purse_here","_law_most"] ycy) (h__law_round:Has P w K mg base 2 "_law_round" ["_law_table_here","_law_one"] zaP) (h__law_raised:Has P w K mg base 1 "_law_raised" ["_law_one","_law_many"] yah) (h__law_pick:Has P w K mg base 1 "_law_pick" ["_law_purse_here","_law_many"] ybX) (h__law_ring:Has P w K mg base 1 "_law_ring" ["_law_i","_law_n","_law_q"] zbT) (F:Fun K "_law_small_wheel" "_law_small_wheel" zaG f fd):FnOk P w K mg base CX0 6 f fd ["_law_purse_here","_law_most","_law_listed"] ycg:=by
  refine F.ok yag (fun vs H Q E h=>?_) (fun cdv A outer s H vs Q E hr h=>?_)
  · obtain ⟨pu,g,most,L,rfl,_⟩:=h;rfl
  obtain ⟨pu,g,most,L,rfl,hP,hmost,hL1,ret⟩:=h
  refine ⟨_,(((h__law_wheel<$>((pv 0)>=>(pv 1)>=>zab))≈((3&&&yag.nd)∩((4&&&yag.nd)∩yax)))<=<(@zbP _ _ 5 6 _ _ _ _ _ _ _ _ _ _ _ rfl yag.nd rfl rfl (by decide) rfl rfl ((h__law_round<$>((pv 3)>=>(yas<<<(pv 4)<<<yab)>=>zab))>=>(h__law_raised<$>(((pv 3)⊃zax)>=>(yas<<<(pv 4)<<<yab)>=>zab))>=>zab) rfl (by rfl))<=<(@zbP _ _ 7 8 _ _ _ _ _ _ _ _ _ _ _ rfl yag.nd rfl rfl (by decide) rfl rfl ((zdk<*("list",zbl,((yas<<<(pv 4)<<<yab)>=>zab)))>=>(h__law_pick<$>((pv 0)>=>(pv 5)>=>zab))>=>zab) rfl (by rfl))<=<((↑((pv 5)>=>zab))<&>((9&&&yag.nd),((10<|>yag.nd<|>(yaB|||(zan|||(pv 8)|||(pv 9))|||(pv 5)))<=<(~~~((@PW.pt _ _ _ (@zfk _ _ _ _ _ _ _ (zdP∪(h__law_raised<$>((pv 6)>=>(zaH|||(pv 5)|||(yal>>>("len",PySem.boot_len,((pv 7)>=>zab))))>=>zab))∪(pv 2)) (@ydZ _ _ _ _ (@ydH _ _ _ _ _ _ _ _ zb8 (pv 10) (pv 7) (by with_unfolding_all rfl)))))*>((~~~(7<|>yag.nd<|>(ybU|||(pv 7)|||(h__law_ring<$>((pv 10)>=>(pv 5)>=>(pv 6)>=>zab))))),zaC))))))<=<(~~~((@ybb _ _ _ _ _ ((pv 3)>=>(yfj|||(@ybM _ _ _ _ _ _ _ _ _ _ ygg (pv 4) yci (@zcg _ _ _ yab))|||(@ybb _ _ _ _ _ ((zav<*("tuple",yau,((ydY>>>("sorted",ybF,((pv 7)>=>zab)))>=>zab)))>=>zab)))>=>zab))⁻¹))),?_⟩
  refine ⟨_,rfl,_,rfl,pu,g,most,rfl,hP,hmost,fun r tb fa pa la wh mk p m t b few root n marks H4 er T ap hW nwh nmk nr W hn hP4 sx4=>?_⟩
  refine ⟨r,_,rfl,SqT.of er,rfl,_,_,rfl,_,_,rfl,rfl,?_⟩
  have G:=T.good
  have hp:=G.hp
  have hm:=G.hm
  have hQ:=G.hq
  have hnq:=W.nq
  have hn0:=W.ord.pos
  have hm6:=m_le hp hQ
  have hp2:=p_le hp hm hQ
  have hfm:few≤m:=Nat.le_of_dvd (by omega) (Nat.dvd_of_mod_eq_zero W.fewm)
  have hf1:=W.few1
  have he1:1≤m/few:=Nat.div_pos hfm (by omega)
  have he2:m/few≤6:=Nat.le_trans (Nat.div_le_self _ _) hm6
  have hqq:p^few≤64:=Nat.le_trans (Nat.pow_le_pow_right (by omega) hfm) hQ
  have hq1:1≤p^few:=Nat.pow_pos (by omega)
  have hrnd:=W.ord.round G W.r0 W.rq W.fewm hf1
  refine ⟨_,rfl,_,rfl,wh,_,_,Vn root,rfl,rfl,SqT.of hW.w,rfl,tb,fa,pa,la,p,m,t,b,root,rfl,T,W.r0,W.rq,fun n' o' _=>?_⟩
  cases o'.uniq W.ord
  refine ⟨_,rfl,tb,_,rfl,T.get zdU,_,rfl,wh,_,_,Vn few,rfl,rfl,SqT.of hW.w,rfl,p,few,rfl,hp2,by omega,?_⟩
  refine ⟨_,_,rfl,?_⟩
  refine ⟨_,rfl,wh,_,_,.ref mk,rfl,rfl,SqT.of hW.w,rfl,mk,_,rfl,.inr (SqT.of hW.k),fun l0 hl0=>?_⟩
  have sl:=yaa hl0 (.lst (marks.map Vn))
  have nl0:=hP4.lt hl0
  refine ⟨_,rfl,_,rfl,pu,g,n,rfl,hP4.same sl,by omega,by omega,fun spot H5 hspot hP5 sx5=>?_⟩
  refine ⟨_,_,rfl,?_⟩
  have sx45:yaj pu g H4 H5:=(Same.x sl).trans sx5
  have T5:=T.x ap sx45
  have hW5:=hW.x nwh nmk sx45
  have e5:H5 l0=some (.lst (marks.map Vn)):=sx5 _ _ nl0.1 nl0.2 zaa
  dsimp only [yan]
  refine ya7 (fun σ H'=>Pu H' pu g∧yaj pu g H5 H'∧∃(ml:Addr) (ms:List Nat) (s9 s10:Option V),H' ml=some (.lst (ms.map Vn))∧ms.Nodup∧(∀x∈ms,x<n)∧(∀x∈ms,x*p^few%n∈ms)∧(p^few)^(n-ms.length)≤L∧σ=[some (.ref pu),some (Vn most),some (Vn L),some (.ref tb),some (.ref wh),some (Vn n),some (Vn (p^few)),some (.ref ml),some (Vn spot),s9,s10]) ?_ ?_
  · rintro σ H6 ⟨hP6,sx6,ml,ms,s9,s10,e6,hnd,hlt,hcl,hsz,rfl⟩
    have T6:=T5.x ap sx6
    have hW6:=hW5.x nwh nmk sx6
    have hlen:=yd0 n ms hnd hlt
    refine ⟨_,rfl,_,rfl,_,rfl,wh,_,rfl,SqT.of hW6.w,by rintro ⟨_,h⟩;exact absurd (show HT.sIx 4 4 (some 3)=4 from h) (by decide),fun w1 hw1=>?_⟩
    have t1:=yaa hw1 (.tup [.ref fa,Vn few,Vn root])
    refine ⟨_,rfl,ml,(ms.map fun n:Nat=>(n:Int)),rfl,SqL.of (by rw [mapI];exact t1 _ _ e6),by rw [List.length_map];omega,fun l2 ns' hl2 perm asc=>?_⟩
    obtain ⟨ms2,ems,hasc,hmm⟩:=zeo perm asc hnd
    have hlen2:ms2.length=ms.length:=by
      have:=congrArg List.length ems
      rw [List.length_map,List.length_map,perm.length_eq,List.length_map] at this
      exact this.symm
    rw [ems]
    have t2:=t1.trans (yaa hl2 (.lst (ms2.map Vn)))
    refine ⟨l2,_,rfl,.inl ⟨SqL.of zaa,fun k1 hk1=>?_⟩⟩
    have t3:=yaa hk1 (.tup (ms2.map Vn))
    refine ⟨szl 1,fun w2 hw2=>?_⟩
    have t4:=yaa hw2 (.tup [.ref k1])
    refine ⟨w1,w2,[.ref fa,Vn few,Vn root],[.ref k1],rfl,rfl,SqT.of (t4 _ _ (t3 _ _ (yaa hl2 _ _ _ zaa))),SqT.of zaa,szl 4,fun h=>absurd h (by simp),fun _ h=>absurd h (by simp),fun _ _ w3 hw3=>?_⟩
    have t5:=yaa hw3 (.tup [.ref fa,Vn few,Vn root,.ref k1])
    refine ⟨szl 2,fun r3 hr3=>?_⟩
    have t6:=yaa hr3 (.tup [.ref tb,.ref w3])
    have hP7:=(hP6.same t2)
    have hP8:=(hP7.same t3).same t4
    refine ret r3 tb fa pa la w3 k1 p m t b few root n ms2 _ zaa (((((T6.same t2).same t3).same t4).same t5).same t6) ap ⟨t6 _ _ zaa,t6 _ _ (t5 _ _ (t4 _ _ zaa))⟩ (hP8.lt hw3) (hP7.lt hk1) ⟨W.few1,W.fewm,W.r0,W.rq,W.ord,W.nq,hasc,fun x hx=>hlt x ((hmm x).mp hx),fun x hx=>(hmm _).mpr (hcl x ((hmm x).mp hx))⟩ (by rw [hlen2];exact hsz) ((hP8.same t5).same t6) ?_
    exact ((sx4.trans sx45).trans sx6).trans (Same.x (t2.trans (t3.trans (t4.trans (t5.trans t6)))))
  · intro D' _ _ _ hD
    refine ⟨_,rfl,(n:Int),rfl,by omega,by omega,?_⟩
    refine yaz (lo:=0) (n:=(n:Int).toNat) (fun i σ H'=>Pu H' pu g∧yaj pu g H5 H'∧∃(ml:Addr) (ms:List Nat) (s9 s10:Option V),H' ml=some (.lst (ms.map Vn))∧(ml≠pu∧ml≠g)∧ms.Nodup∧(∀x∈ms,x<n)∧(∀x∈ms,x*p^few%n∈ms)∧((p^few)^(n-ms.length)≤L∨∀j,j<i→(spot+j)%n∈ms)∧σ=[some (.ref pu),some (Vn most),some (Vn L),some (.ref tb),some (.ref wh),some (Vn n),some (Vn (p^few)),some (.ref ml),some (Vn spot),s9,s10]) ⟨hP5,yaj.refl,l0,marks,none,none,e5,nl0,W.asc.imp fun h=>by omega,W.lt,W.closed,.inr fun j hj=>absurd hj (by omega),rfl⟩ ?_ ?_
    · rintro i σ H6 hi ⟨hP6,sx6,ml,ms,s9,s10,e6,nml,hnd,hlt,hcl,hor,rfl⟩
      rw [Int.toNat_natCast] at hi
      have hlen:=yd0 n ms hnd hlt
      have em:V.int (((spot:Int)+(0+(i:Int)))%(n:Int))=Vn ((spot+i)%n):=by rw [Int.zero_add];rfl
      refine ⟨_,rfl,_,rfl,_,_,rfl,rfl,_,rfl,_,_,rfl,rfl,by show (0:Int)<n;omega,?_⟩
      dsimp only [yan]
      rw [em]
      have hmk:(spot+i)%n<n:=Nat.mod_lt _ hn0
      refine ⟨_,rfl,_,rfl,_,rfl,ml,_,rfl,.inl (SqL.of e6),_,_,rfl,rfl,p^few,n-ms.length,?_,hqq,by omega,_,rfl,_,_,rfl,rfl,_,rfl,?_⟩
      · rw [List.length_map]
        show [Vn (p^few),V.int ((n:Int)-(ms.length:Int))]=_
        rw [show (n:Int)-(ms.length:Int)=((n-ms.length:Nat):Int) by omega]
      refine ite2 (fun c=>?_) (fun c=>?_)
      · have c':L<(p^few)^(n-ms.length):=by
          have:=of_decide_eq_true c
          exact Int.ofNat_lt.mp this
        have hor:∀j,j<i→(spot+j)%n∈ms:=by
          rcases hor with h|h
          · omega
          · exact h
        refine ⟨_,rfl,_,rfl,ml,_,rfl,.inl (SqL.of e6),rfl,ycE ms,_,rfl,?_⟩
        rw [ydu]
        refine ite2 (fun d=>?_) (fun d=>?_)
        · have d':(spot+i)%n∉ms:=fun h=>by rw [decide_eq_true h] at d;exact absurd d (by decide)
          refine ⟨_,rfl,_,rfl,_,rfl,_,rfl,(spot+i)%n,n,p^few,m/few,rfl,by omega,by omega,hqq,he1,he2,hrnd,fun rg rs H7 s7 nrg erg h1 h2 h3 h4 h5 h6 h7=>?_⟩
          refine ⟨ml,rg,_,_,rfl,rfl,s7 _ _ e6,erg,by rw [List.length_map,List.length_map];exact szl _ (by omega),fun l2 hl2=>?_⟩
          rw [←List.map_append]
          have s8:=s7.trans (yaa hl2 (.lst ((ms++rs).map Vn)))
          refine ⟨hP6.same s8,sx6.trans (Same.x s8),l2,ms++rs,_,_,zaa,(hP6.same s7).lt hl2,List.nodup_append.mpr ⟨hnd,h5,fun x hx y hy exy=>?_⟩,fun x hx=>?_,fun x hx=>?_,.inr fun j hj=>?_,rfl⟩
          · subst exy
            obtain ⟨a',ea⟩:=h6 x hy
            refine d' ?_
            have:=zcO hlt hcl hx (m/few*a'-a')
            rw [ea,Nat.mod_mul_mod,ybS hrnd he1,Nat.mod_mod] at this
            exact this
          · rcases List.mem_append.mp hx with h|h
            · exact hlt x h
            · exact h3 x h
          · rcases List.mem_append.mp hx with h|h
            · exact List.mem_append_left _ (hcl x h)
            · exact List.mem_append_right _ (h4 x h)
          · rcases Nat.lt_or_ge j i with h|h
            · exact List.mem_append_left _ (hor j h)
            · rw [show j=i by omega]
              have:=h7 0
              rw [Nat.pow_zero,Nat.mul_one,Nat.mod_mod] at this
              exact List.mem_append_right _ this
        · have d':(spot+i)%n∈ms:=Classical.byContradiction fun h=>d (by rw [decide_eq_false h];rfl)
          refine ⟨hP6,sx6,ml,ms,_,_,e6,nml,hnd,hlt,hcl,.inr fun j hj=>?_,rfl⟩
          rcases Nat.lt_or_ge j i with h|h
          · exact hor j h
          · rw [show j=i by omega];exact d'
      · have c':(p^few)^(n-ms.length)≤L:=by
          rcases Nat.lt_or_ge L ((p^few)^(n-ms.length)) with h|h
          · exact absurd (decide_eq_true (Int.ofNat_lt.mpr h)) c
          · exact h
        refine ite2 (fun d=>absurd d (by decide)) (fun _=>?_)
        exact ⟨hP6,sx6,ml,ms,_,_,e6,nml,hnd,hlt,hcl,.inl c',rfl⟩
    · rw [Int.toNat_natCast]
      rintro σ H6 ⟨hP6,sx6,ml,ms,s9,s10,e6,nml,hnd,hlt,hcl,hor,rfl⟩
      refine hD _ _ ⟨hP6,sx6,ml,ms,_,_,e6,hnd,hlt,hcl,?_,rfl⟩
      rcases hor with h|h
      · exact h
      · have hall:∀x∈List.range n,x∈ms:=fun x hx=>by
          have hx:=List.mem_range.mp hx
          by_cases c:spot≤x
          · have:=h (x-spot) (by omega)
            rw [show spot+(x-spot)=x by omega,Nat.mod_eq_of_lt hx] at this
            exact this
          · have:=h (x+n-spot) (by omega)
            rw [show spot+(x+n-spot)=x+n by omega,Nat.add_mod_right,Nat.mod_eq_of_lt hx] at this
            exact this
        have:=ybZ (List.nodup_range) hall
        rw [List.length_range] at this
        rw [show n-ms.length=0 by omega,Nat.pow_zero];exact hL1
end
end My
end
section
-- text: Q31m
set_option Elab.async false
set_option linter.all false
set_option maxRecDepth 100000
set_option maxHeartbeats 4000000
namespace My
open PySem L2 Dg
theorem ygG {α β:Type} {f g:α→List β}:∀ {l:List α},(∀a∈l,f a=g a)→l.flatMap f=l.flatMap g
  | [],_=>rfl
  | a::l,h=>by rw [List.flatMap_cons,List.flatMap_cons,h a (List.mem_cons_self ..),ygG fun b hb=>h b (List.mem_cons_of_mem _ hb)]
theorem zbX {α:Type} [DecidableEq α]:∀ {l s:List α},l.Nodup→(∀x∈l,x∈s)→s.length≤l.length→l.Perm s
  | [],s,_,_,h=>by rw [List.length_eq_zero_iff.mp (Nat.le_zero.mp h)]
  | x::l,s,hd,hs,hl=>by
    have hd':=List.nodup_cons.mp hd
    have hx:=hs x (List.mem_cons_self ..)
    have h1:=List.perm_cons_erase hx
    refine List.Perm.trans (List.Perm.cons x (zbX hd'.2 (fun y hy=>?_) ?_)) h1.symm
    · exact (List.mem_erase_of_ne (fun e=>hd'.1 (by rw [←e];exact hy))).mpr (hs y (List.mem_cons_of_mem _ hy))
    · rw [List.length_erase_of_mem hx]
      rw [List.length_cons] at hl
      omega
theorem zeU {α:Type} {f:Nat→α→α} {ws:List α} (hw:ws.Nodup):∀ {cs:List Nat},cs.Nodup→(∀c∈cs,∀c'∈cs,∀u∈ws,∀v∈ws,f c u=f c' v→c=c'∧u=v)→(cs.flatMap fun c=>ws.map (f c)).Nodup
  | [],_,_=>List.nodup_nil
  | c::cs,hc,h=>by
    have hc':=List.nodup_cons.mp hc
    rw [List.flatMap_cons,List.nodup_append]
    refine ⟨?_,zeU hw hc'.2 fun a ha b hb=>h a (List.mem_cons_of_mem _ ha) b (List.mem_cons_of_mem _ hb),fun x hx y hy e=>?_⟩
    · rw [List.Nodup,List.pairwise_map]
      exact List.Pairwise.imp_of_mem (fun {u v} hu hv ne e=>ne (h c (List.mem_cons_self ..) c (List.mem_cons_self ..) u hu v hv e).2) hw
    · obtain ⟨u,hu,rfl⟩:=List.mem_map.mp hx
      obtain ⟨c',hc2,h2⟩:=List.mem_flatMap.mp hy
      obtain ⟨v,hv,rfl⟩:=List.mem_map.mp h2
      have:=(h c (List.mem_cons_self ..) c' (List.mem_cons_of_mem _ hc2) u hu v hv e).1
      rw [this] at hc'
      exact hc'.1 hc2
noncomputable def allK (cs:List Nat):Nat→List (List Nat)
  | 0=>[[]]
  | k+1=>(allK cs k).flatMap fun v=>cs.map fun c=>v++[c]
theorem zc9 (cs:List Nat):∀k,(allK cs k).length=cs.length^k
  | 0=>rfl
  | k+1=>by
    show (List.flatMap _ _).length=_
    rw [List.length_flatMap,show (List.map (fun v=>(cs.map fun c=>v++[c]).length) (allK cs k))=(allK cs k).map fun _=>cs.length from List.map_congr_left fun _ _=>List.length_map _]
    rw [List.map_const',List.sum_replicate_nat,zc9 cs k,Nat.pow_succ]
theorem yaX (cs:List Nat):∀ {k:Nat} {v:List Nat},v∈allK cs k→v.length=k∧∀x∈v,x∈cs
  | 0,v,h=>by cases List.mem_singleton.mp h;exact ⟨rfl,fun x hx=>nomatch hx⟩
  | k+1,v,h=>by
    obtain ⟨u,hu,h2⟩:=List.mem_flatMap.mp h
    obtain ⟨c,hc,rfl⟩:=List.mem_map.mp h2
    obtain ⟨h3,h4⟩:=yaX cs hu
    refine ⟨by rw [List.length_append,h3];rfl,fun x hx=>?_⟩
    rcases List.mem_append.mp hx with hx|hx
    · exact h4 x hx
    · rw [List.mem_singleton.mp hx];exact hc
theorem zbC (cs:List Nat):∀ {k:Nat} {v:List Nat},v.length=k→(∀x∈v,x∈cs)→v∈allK cs k
  | 0,v,h,_=>by rw [List.length_eq_zero_iff.mp h];exact List.mem_singleton.mpr rfl
  | k+1,v,h,hx=>by
    rcases List.eq_nil_or_concat v with rfl | ⟨u,c,rfl⟩
    · cases h
    · rw [List.concat_eq_append] at h hx ⊢
      rw [List.length_append,List.length_singleton] at h
      exact List.mem_flatMap.mpr ⟨u,zbC cs (by omega) fun x hx'=>hx x (List.mem_append_left _ hx'),List.mem_map.mpr ⟨c,hx c (List.mem_append_right _ (List.mem_singleton.mpr rfl)),rfl⟩⟩
theorem zcA (p m t c:Nat) (xs:List Nat):yar p m t c xs=xs.map (mul p m t c):=by
  unfold yar
  exact List.ext_getElem (by simp) fun i h1 h2=>by simp [List.getD,show i<xs.length by simpa using h2]
theorem ycY (p m:Nat) (xs ys:List Nat):sums p m xs ys=List.zipWith (add p m) xs ys:=by
  unfold sums
  refine List.ext_getElem (by simp) fun i h1 h2=>?_
  have h3:i<xs.length∧i<ys.length:=by simpa [Nat.lt_min] using h2
  simp [List.getD,h3.1,h3.2]
section
variable {p m t few:Nat} (G:Good p m t)
include G
theorem yde {x y:Nat} (hx:x∈lets p m t few) (hy:y∈lets p m t few):add p m x y∈lets p m t few:=by
  have bx:=zao x hx
  have b_y:=zao y hy
  rw [yaE G bx] at hx
  rw [yaE G b_y] at hy
  rw [yaE G (ya2 G.hp G.hm _ _),G.frobN few bx b_y,hx,hy]
theorem zbV {x y:Nat} (hx:x∈lets p m t few) (hy:y∈lets p m t few):mul p m t x y∈lets p m t few:=by
  have bx:=zao x hx
  have b_y:=zao y hy
  rw [yaE G bx] at hx
  rw [yaE G b_y] at hy
  rw [yaE G (zap G.hp G.hm _ _),ybo G.hp G.hm,hx,hy]
theorem yd4:∀ {v:List Nat},(∀x∈v,x<p^m)→List.zipWith (add p m) v (List.replicate v.length 0)=v
  | [],_=>rfl
  | x::v,h=>by
    rw [List.length_cons,List.replicate_succ,List.zipWith_cons_cons,add_zero G.hp G.hm (h x (List.mem_cons_self ..)),yd4 fun y hy=>h y (List.mem_cons_of_mem _ hy)]
theorem yeC {v:List Nat} {fr k c:Nat} (hv:v.length=k) (hk:k<fr) (hx:∀x∈v,x<p^m) (hc:c<p^m):sums p m (v++List.replicate (fr-k) 0) (yar p m t c (unG fr k))=v++[c]++List.replicate (fr-(k+1)) 0:=by
  have hp:=G.hp
  have hm:=G.hm
  obtain ⟨r,hr⟩:∃r,fr-k=r+1:=⟨fr-k-1,by omega⟩
  have z0:add p m 0 0=0:=add_zero hp hm (zah hp hm)
  rw [ycY,zcA]
  unfold unG
  rw [show fr-k-1=r by omega,show fr-(k+1)=r by omega,hr,List.map_append,List.map_append,List.map_replicate,List.map_replicate,List.map_singleton,mul_zero hp hm,mul_one hp hm hc,List.append_assoc,List.append_assoc]
  rw [List.zipWith_append (by rw [List.length_replicate];exact hv)]
  congr 1
  · rw [←hv];exact yd4 G hx
  · rw [List.replicate_succ]
    show add p m 0 c::List.zipWith (add p m) (List.replicate r 0) (List.replicate r 0)=c::List.replicate r 0
    rw [zero_add hp hm hc,List.zipWith_replicate,z0,Nat.min_self]
theorem yf3 {root n fr:Nat} {marks:List Nat} (hfr:fr+marks.length=n):∀k,k≤fr→WOk p m t root n marks (wdL p m t root marks few fr k)
  | 0,_=>fun u hu=>by
    have uz:∀x∈List.replicate fr 0,x<p^m:=fun x hx=>by rw [List.eq_of_mem_replicate hx];exact zah G.hp G.hm
    cases List.mem_singleton.mp hu
    exact ⟨by rw [ydJ G uz,List.length_replicate];omega,yeD G uz,fun k hk=>zcW G uz hk⟩
  | k+1,hk=>fun u hu=>by
    obtain ⟨v,hv,h1⟩:=List.mem_flatMap.mp hu
    obtain ⟨y,hy,rfl⟩:=List.mem_map.mp h1
    obtain ⟨c,_,rfl⟩:=List.mem_map.mp hy
    exact WOk.more G (c:=c) (yf3 hfr k (by omega)) (by rw [ydJ G (yd5 G),ygu (by omega)];omega) (yeD G (yd5 G)) (fun k' hk'=>zcW G (yd5 G) hk') _ (List.mem_map.mpr ⟨v,hv,rfl⟩)
theorem zd1 {root n fr:Nat} {marks:List Nat} (hfr:fr+marks.length=n):∀k,k≤fr→(wdL p m t root marks few fr k).map (List.drop marks.length)=(allK (lets p m t few) k).map fun v=>v++List.replicate (fr-k) 0
  | 0,_=>by
    have uz:∀x∈List.replicate fr 0,x<p^m:=fun x hx=>by rw [List.eq_of_mem_replicate hx];exact zah G.hp G.hm
    show [_]=[_]
    rw [yc5 G uz]
    rfl
  | k+1,hk=>by
    have ih:=zd1 (root:=root) hfr k (by omega)
    show ((wdL p m t root marks few fr k).flatMap fun u=>(mulR p m t root marks few fr k).map (sums p m u)).map (List.drop marks.length)=((allK (lets p m t few) k).flatMap fun v=>(lets p m t few).map fun c=>v++[c]).map fun v=>v++List.replicate (fr-(k+1)) 0
    rw [List.map_flatMap,List.map_flatMap]
    have e1:((wdL p m t root marks few fr k).flatMap fun u=>((mulR p m t root marks few fr k).map (sums p m u)).map (List.drop marks.length))=((wdL p m t root marks few fr k).map (List.drop marks.length)).flatMap fun x=>(lets p m t few).map fun c=>sums p m x (yar p m t c (unG fr k)):=by
      rw [List.flatMap_map]
      refine ygG fun u _=>?_
      unfold mulR
      rw [List.map_map,List.map_map]
      refine List.map_congr_left fun c _=>?_
      show (sums p m u (yar p m t c (mdL p m t root marks (unG fr k)))).drop marks.length=_
      rw [ycY,ycY,List.drop_zipWith,zcA,zcA,←List.map_drop,yc5 G (yd5 G)]
    rw [e1,ih,List.flatMap_map]
    refine ygG fun v hv=>?_
    obtain ⟨h1,h2⟩:=yaX _ hv
    rw [List.map_map]
    exact List.map_congr_left fun c hc=>yeC G h1 (by omega) (fun x hx=>zao x (h2 x hx)) (zao c hc)
theorem yfF {root n:Nat} {marks:List Nat} (W:Whl p m t few root n marks):∀x∈mkL p m t root marks,x∈lets p m t few:=fun x hx=>by
  have h1:=zas G.hp G.hm
  rw [yaE G (ycm G marks x hx)]
  refine yeU G W (ycm G marks) (fun k hk=>yca G hk) (fun y hy=>?_) x hx
  have ml:=yaU p m t root marks
  have e:(mkL p m t root marks).drop marks.length=[1]:=by
    refine List.ext_getElem (by rw [List.length_drop,ml,List.length_singleton];omega) fun i a1 a2=>?_
    have:i=0:=by rw [List.length_singleton] at a2;omega
    subst this
    have:=ycU G root marks
    rw [List.getD_eq_getElem?_getD,List.getElem?_eq_getElem (by omega)] at this
    rw [List.getElem_drop]
    simpa using this
  rw [e] at hy
  rw [List.mem_singleton.mp hy,yaY G.hp G.hm]
theorem zaR {root n:Nat} {marks:List Nat} (W:Whl p m t few root n marks):∀k,∀u∈lwL p m t root n marks few k,∀x∈u,x∈lets p m t few
  | 0,u,hu,x,hx=>by
    cases List.mem_singleton.mp hu
    rw [List.eq_of_mem_replicate hx,yaE G (zah G.hp G.hm)]
    obtain ⟨q,e⟩:∃q,p^few=q+1:=⟨p^few-1,by have:0<p^few:=Nat.pow_pos (by have:=G.hp;omega);omega⟩
    rw [e];exact ybq G.hp G.hm q
  | k+1,u,hu,x,hx=>by
    have z:(0:Nat)∈lets p m t few:=zaR W 0 _ (List.mem_singleton.mpr rfl) 0 (List.mem_replicate.mpr ⟨by have:=W.ord.pos;omega,rfl⟩)
    obtain ⟨c,hc,h2⟩:=List.mem_flatMap.mp hu
    obtain ⟨v,hv,rfl⟩:=List.mem_map.mp h2
    obtain ⟨i,hi,rfl⟩:=List.mem_map.mp hx
    have hi:=List.mem_range.mp hi
    have h3:∀ {l:List Nat} {j:Nat},(∀y∈l,y∈lets p m t few)→l.getD j 0∈lets p m t few:=fun {l j} h=>by
      by_cases hj:j<l.length
      · rw [show l.getD j 0=l[j] by simp [List.getD,hj]];exact h _ (List.getElem_mem hj)
      · rw [show l.getD j 0=0 by simp [List.getD,Nat.le_of_not_lt hj]];exact z
    refine yde G (h3 (zaR W k v hv)) (h3 fun y hy=>?_)
    obtain ⟨j,_,rfl⟩:=List.mem_map.mp hy
    refine zbV G hc (h3 fun y hy=>?_)
    unfold mvL padL at hy
    simp only [List.mem_append,List.mem_replicate] at hy
    rcases hy with (⟨_,rfl⟩|hy) | ⟨_,rfl⟩
    · exact z
    · exact yfF G W y hy
    · exact z
theorem ybz {n i:Nat} {xs ys:List Nat} (h1:xs.length=n) (h2:ys.length=n) (hi:i<n):(addL p m xs ys).getD i 0=add p m (xs.getD i 0) (ys.getD i 0):=by
  unfold addL
  rw [List.getD_eq_getElem?_getD,List.getElem?_map,List.getElem?_range (by omega)]
  rfl
theorem ybw {c n i:Nat} {xs:List Nat} (h1:xs.length=n) (hi:i<n):(yar p m t c xs).getD i 0=mul p m t c (xs.getD i 0):=by
  unfold yar
  rw [List.getD_eq_getElem?_getD,List.getElem?_map,List.getElem?_range (by omega)]
  rfl
theorem zg6 {root n k:Nat} {marks:List Nat} (hk:k<n-marks.length):(mvL p m t root n marks k).getD (marks.length+k) 0=1:=by
  unfold mvL padL
  have ml:=yaU p m t root marks
  rw [List.getD_eq_getElem?_getD,List.getElem?_append_left (by rw [List.length_append,List.length_replicate,ml];omega),List.getElem?_append_right (by rw [List.length_replicate];omega),List.length_replicate,show marks.length+k-k=marks.length by omega,←List.getD_eq_getElem?_getD,ycU G]
theorem ygx {root n k i:Nat} {marks:List Nat} (hi:marks.length+k<i):(mvL p m t root n marks k).getD i 0=0:=by
  unfold mvL padL
  have ml:=yaU p m t root marks
  rw [List.getD_eq_getElem?_getD,List.getElem?_append_right (by rw [List.length_append,List.length_replicate,ml];omega)]
  by_cases h:i-(List.replicate k 0++mkL p m t root marks).length<n-k-(marks.length+1)
  · rw [List.getElem?_replicate,if_pos h];rfl
  · rw [List.getElem?_replicate,if_neg h];rfl
theorem ydL {root n:Nat} {marks:List Nat}:∀k,k≤n-marks.length→∀u∈lwL p m t root n marks few k,∀i,marks.length+k≤i→u.getD i 0=0
  | 0,_,u,hu,i,_=>by
    cases List.mem_singleton.mp hu
    rw [List.getD_eq_getElem?_getD,List.getElem?_replicate]
    split <;> rfl
  | k+1,hk,u,hu,i,hi=>by
    obtain ⟨c,hc,h2⟩:=List.mem_flatMap.mp hu
    obtain ⟨v,hv,rfl⟩:=List.mem_map.mp h2
    have hv1:=(yaW (root:=root) (marks:=marks) (few:=few) G k (by omega) v hv).1
    have lp:(yar p m t c (mvL p m t root n marks k)).length=n:=by rw [ybs];exact zdo (by omega)
    by_cases hin:i<n
    · rw [ybz G hv1 lp hin,ydL k (by omega) v hv i (by omega),ybw G (zdo (by omega)) hin,ygx G (by omega),mul_zero G.hp G.hm,add_zero G.hp G.hm (zah G.hp G.hm)]
    · rw [List.getD_eq_getElem?_getD,List.getElem?_eq_none (by rw [zcc hv1 lp];omega)];rfl
theorem yfd {root n:Nat} {marks:List Nat}:∀k,k≤n-marks.length→(lwL p m t root n marks few k).Nodup
  | 0,_=>List.nodup_cons.mpr ⟨List.not_mem_nil,List.nodup_nil⟩
  | k+1,hk=>by
    have hp:=G.hp
    have hm:=G.hm
    refine zeU (yfd k (by omega)) (List.Pairwise.filter _ (List.pairwise_lt_range.imp fun h=>by omega)) fun c hc c' hc' u hu v hv e=>?_
    have hu1:=yaW (root:=root) (marks:=marks) (few:=few) G k (by omega) u hu
    have hv1:=yaW (root:=root) (marks:=marks) (few:=few) G k (by omega) v hv
    have lm:(mvL p m t root n marks k).length=n:=zdo (by omega)
    have lp:∀c,(yar p m t c (mvL p m t root n marks k)).length=n:=fun c=>by rw [ybs];exact lm
    have at_:∀i,i<n→add p m (u.getD i 0) (mul p m t c ((mvL p m t root n marks k).getD i 0))=add p m (v.getD i 0) (mul p m t c' ((mvL p m t root n marks k).getD i 0)):=fun i hi=>by
      have:=congrArg (fun l:List Nat=>l.getD i 0) e
      try dsimp only at this
      rw [ybz G hu1.1 (lp c) hi,ybz G hv1.1 (lp c') hi,ybw G lm hi,ybw G lm hi] at this
      exact this
    have ec:c=c':=by
      have:=at_ (marks.length+k) (by omega)
      rw [zg6 G (by omega),ydL G k (by omega) u hu _ (Nat.le_refl _),ydL G k (by omega) v hv _ (Nat.le_refl _),mul_one hp hm (zao c hc),mul_one hp hm (zao c' hc'),zero_add hp hm (zao c hc),zero_add hp hm (zao c' hc')] at this
      exact this
    subst ec
    refine ⟨rfl,List.ext_getElem (hu1.1.trans hv1.1.symm) fun i a1 a2=>?_⟩
    have h1:=at_ i (by omega)
    have g:∀ {l:List Nat} (h:i<l.length),l.getD i 0=l[i]:=fun h=>by simp [List.getD,h]
    rw [g a1,g a2] at h1
    have h2:=congrArg (fun x=>sub p m x (mul p m t c ((mvL p m t root n marks k).getD i 0))) h1
    rwa [zbr hp hm (hu1.2.1 _ (List.getElem_mem a1)),zbr hp hm (hv1.2.1 _ (List.getElem_mem a2))] at h2
theorem yet {root n fr:Nat} {marks:List Nat} (W:Whl p m t few root n marks) (hfr:fr+marks.length=n):(wdL p m t root marks few fr fr).Perm (lwL p m t root n marks few fr):=by
  have back:∀ {l:List (List Nat)},WOk p m t root n marks l→(l.map (List.drop marks.length)).map (mdL p m t root marks)=l:=fun {l} h=>by
    rw [List.map_map]
    conv=>rhs;rw [←List.map_id l]
    exact List.map_congr_left fun u hu=>zbQ G W (h u hu).1 (by omega) (h u hu).2.1 (h u hu).2.2
  have hA:=yf3 (few:=few) (root:=root) G hfr fr (Nat.le_refl _)
  have hB:=yaW (root:=root) (marks:=marks) (n:=n) (few:=few) G fr (by omega)
  have eA:=zd1 (few:=few) (root:=root) G hfr fr (Nat.le_refl _)
  rw [Nat.sub_self] at eA
  have eA2:(wdL p m t root marks few fr fr).map (List.drop marks.length)=allK (lets p m t few) fr:=by
    rw [eA]
    conv=>rhs;rw [←List.map_id (allK (lets p m t few) fr)]
    exact List.map_congr_left fun v _=>List.append_nil v
  have hBp:((lwL p m t root n marks few fr).map (List.drop marks.length)).Perm (allK (lets p m t few) fr):=by
    refine zbX ?_ (fun v hv=>?_) ?_
    · rw [List.Nodup,List.pairwise_map]
      refine List.Pairwise.imp_of_mem (fun {u v} hu hv ne e=>ne ?_) (yfd G fr (by omega))
      have h1:=hB u hu
      have h2:=hB v hv
      rw [←zbQ G W h1.1 (by omega) h1.2.1 h1.2.2,e,zbQ G W h2.1 (by omega) h2.2.1 h2.2.2]
    · obtain ⟨u,hu,rfl⟩:=List.mem_map.mp hv
      exact zbC _ (by rw [List.length_drop,(hB u hu).1];omega) fun x hx=>zaR G W fr u hu x (List.mem_of_mem_drop hx)
    · rw [List.length_map,zc9,zcv]
      exact Nat.le_refl _
  have h:=(eA2 ▸ hBp.symm:((wdL p m t root marks few fr fr).map (List.drop marks.length)).Perm _).map (mdL p m t root marks)
  rwa [back hA,back hB] at h
end
end My
end
section
-- text: M58a
set_option Elab.async false
set_option linter.all false
set_option maxRecDepth 100000
set_option maxHeartbeats 4000000
namespace My
open PySem L2 Dg
noncomputable def sL {α:Type} (l:List α) (g:α→Int):Int:=(l.map g).sum
theorem zcI {α:Type} (g:α→Int):sL [] g=0:=rfl
theorem yao {α:Type} (a:α) (l:List α) (g:α→Int):sL (a::l) g=g a+sL l g:=by simp [sL]
theorem zag {α:Type} {l:List α} {g h:α→Int} (e:∀a∈l,g a=h a):sL l g=sL l h:=by
  unfold sL;rw [List.map_congr_left e]
theorem yd7 {α:Type} (l:List α) (g h:α→Int):sL l (fun a=>g a+h a)=sL l g+sL l h:=by
  induction l with
  | nil=>rfl
  | cons a l ih=>rw [yao,yao,yao,ih];omega
theorem yb6 {α:Type} (l:List α) (c:Int) (g:α→Int):sL l (fun a=>c*g a)=c*sL l g:=by
  induction l with
  | nil=>rw [zcI,zcI,Int.mul_zero]
  | cons a l ih=>rw [yao,yao,ih,Int.mul_add]
theorem ya1 {α:Type} (l:List α) (c:Int):sL l (fun _=>c)=(l.length:Int)*c:=by
  induction l with
  | nil=>rw [zcI,List.length_nil];simp
  | cons a l ih=>rw [yao,ih,List.length_cons,Int.natCast_add,Int.add_mul];omega
theorem yb2 {α:Type} (l:List α):sL l (fun _=>0)=0:=by rw [ya1,Int.mul_zero]
theorem ydf {α β:Type} (l:List α) (k:List β) (g:α→β→Int):sL l (fun a=>sL k fun b=>g a b)=sL k fun b=>sL l fun a=>g a b:=by
  induction l with
  | nil=>exact (yb2 k).symm
  | cons a l ih =>
    rw [yao,ih,←yd7]
    exact zag fun b _=>(yao a l fun a=>g a b).symm
theorem ygf {α:Type} (l k:List α) (g:α→Int):sL (l++k) g=sL l g+sL k g:=by
  induction l with
  | nil=>rw [List.nil_append,zcI,Int.zero_add]
  | cons a l ih=>rw [List.cons_append,yao,yao,ih];omega
theorem yd6 {α β:Type} (l:List α) (f:α→β) (g:β→Int):sL (l.map f) g=sL l fun a=>g (f a):=by
  unfold sL;rw [List.map_map];rfl
theorem zgj {α β:Type} (l:List α) (f:α→List β) (g:β→Int):sL (l.flatMap f) g=sL l fun a=>sL (f a) g:=by
  induction l with
  | nil=>rfl
  | cons a l ih=>rw [List.flatMap_cons,ygf,yao,ih]
theorem ycT {α:Type} {l k:List α} (h:l.Perm k) (g:α→Int):sL l g=sL k g:=by
  induction h with
  | nil=>rfl
  | cons a _ ih=>rw [yao,yao,ih]
  | swap a b l=>rw [yao,yao,yao,yao];omega
  | trans _ _ h1 h2=>rw [h1,h2]
theorem ye3 {α:Type} (P:α→Bool) (l:List α) (g:α→Int):sL (l.filter P) g=sL l fun a=>if P a=true then g a else 0:=by
  induction l with
  | nil=>rfl
  | cons a l ih =>
    rw [yao]
    by_cases h:P a=true
    · rw [List.filter_cons_of_pos h,yao,ih,if_pos h]
    · rw [List.filter_cons_of_neg h,ih,if_neg h];omega
theorem ybH {a:Nat} (g:Nat→Int):∀ {l:List Nat},l.Nodup→a∈l→sL l g=g a+sL l fun x=>if x=a then 0 else g x
  | [],_,h=>nomatch h
  | b::l,hd,h=>by
    have hd:=List.nodup_cons.mp hd
    rw [yao,yao]
    by_cases e:b=a
    · subst e
      have e1:sL l (fun x=>if x=b then 0 else g x)=sL l g:=zag fun x hx=>if_neg fun e=>hd.1 (by rw [←e];exact hx)
      rw [if_pos rfl,e1]
      omega
    · have ha:a∈l:=by
        rcases List.mem_cons.mp h with h|h
        · exact absurd h.symm e
        · exact h
      rw [if_neg e,ybH g hd.2 ha];omega
noncomputable def sh (F:Nat→Int):Nat→Int
  | 0=>0
  | v+1=>F v
noncomputable def stp (c:Int) (F:Nat→Int) (v:Nat):Int:=F v+c*sh F v
noncomputable def kF (q:Int) (f:Nat→Nat):Nat→Nat→Int
  | 0=>fun v=>if v=0 then 1 else 0
  | n+1=>stp (if f n=0 then q-1 else -1) (kF q f n)
theorem yfG (a b:Int) (F:Nat→Int):stp a (stp b F)=stp b (stp a F):=by
  funext v
  cases v with
  | zero=>show (F 0+b*0)+a*0=(F 0+a*0)+b*0;omega
  | succ v =>
    show (F (v+1)+b*F v)+a*(F v+b*sh F v)=(F (v+1)+a*F v)+b*(F v+a*sh F v)
    rw [Int.mul_add,Int.mul_add,Int.mul_left_comm a b];omega
theorem zee {q:Int} {f g:Nat→Nat}:∀n,(∀i,i<n→(f i=0↔g i=0))→kF q f n=kF q g n
  | 0,_=>rfl
  | n+1,h=>by
    show stp _ _=stp _ _
    rw [zee n fun i hi=>h i (by omega)]
    congr 1
    by_cases c:f n=0
    · rw [if_pos c,if_pos ((h n (by omega)).mp c)]
    · rw [if_neg c,if_neg fun e=>c ((h n (by omega)).mpr e)]
noncomputable def kS (q:Int) (w n:Nat):Nat→Int:=kF q (fun i=>if i<w then 1 else 0) n
theorem ybK (q:Int) (w n:Nat):kS q w (n+1)=stp (if n<w then -1 else q-1) (kS q w n):=by
  show stp _ _=stp _ _
  congr 1
  by_cases c:n<w
  · simp [c]
  · simp [c]
theorem kS_w {q:Int} {w:Nat}:∀d,stp (-1) (kS q w (w+d))=kS q (w+1) (w+d+1)
  | 0=>by
    rw [Nat.add_zero,ybK q (w+1) w,if_pos (by omega)]
    congr 1
    exact zee w fun i hi=>by rw [if_pos hi,if_pos (by omega)]
  | d+1=>by
    rw [show w+(d+1)=w+d+1 by omega,ybK q w (w+d),if_neg (by omega),yfG,kS_w d,ybK q (w+1) (w+d+1),if_neg (by omega)]
noncomputable def wtF (f:Nat→Nat):Nat→Nat
  | 0=>0
  | n+1=>wtF f n+if f n=0 then 0 else 1
theorem ygh (f:Nat→Nat):∀n,wtF f n≤n
  | 0=>Nat.le_refl _
  | n+1=>by
    have:=ygh f n
    show wtF f n+(if f n=0 then 0 else 1)≤n+1
    split <;> omega
theorem kF_S {q:Int} {f:Nat→Nat}:∀n,kF q f n=kS q (wtF f n) n
  | 0=>rfl
  | n+1=>by
    have hw:=ygh f n
    show stp _ (kF q f n)=kS q (wtF f n+if f n=0 then 0 else 1) (n+1)
    rw [kF_S n]
    by_cases c:f n=0
    · rw [if_pos c,if_pos c,Nat.add_zero,ybK,if_neg (by omega)]
    · rw [if_neg c,if_neg c]
      obtain ⟨d,e⟩:∃d,n=wtF f n+d:=⟨n-wtF f n,by omega⟩
      have:=kS_w (q:=q) (w:=wtF f n) d
      rw [←e] at this
      exact this
theorem zdQ {q:Int} {f:Nat→Nat}:∀n v,n<v→kF q f n v=0
  | 0,v,h=>if_neg (by omega)
  | n+1,0,h=>absurd h (by omega)
  | n+1,v+1,h=>by
    show kF q f n (v+1)+_*kF q f n v=0
    rw [zdQ n _ (by omega),zdQ n v (by omega),Int.mul_zero];rfl
end My
end
section
-- text: M58b
set_option Elab.async false
set_option linter.all false
set_option maxRecDepth 100000
set_option maxHeartbeats 4000000
namespace My
open PySem L2 Dg
noncomputable def wt (ns:List Nat):Nat:=(ns.filter (·≠0)).length
theorem zhc (xs ys:List Nat):wt (xs++ys)=wt xs+wt ys:=by simp [wt]
theorem ygK (xs:List Nat):wt xs≤xs.length:=List.length_filter_le _ _
theorem zgn {xs:List Nat} {k:Nat} {z:V} (h:(xs.map Vn)[k]?=some z):∃h:k<xs.length,z=Vn xs[k]:=by
  rw [List.getElem?_map] at h
  rcases hk:xs[k]? with _|v
  · rw [hk] at h;cases h
  · rw [hk] at h;obtain ⟨h1,h2⟩:=List.getElem?_eq_some_iff.mp hk
    exact ⟨h1,by rw [h2];exact (Option.some.inj h).symm⟩
noncomputable def hst (n:Nat) (rs:List (List Nat)):List Nat:=(List.range (n+1)).map fun w=>rs.countP fun r=>wt r==w
theorem zbM (n:Nat) (rs:List (List Nat)):(hst n rs).length=n+1:=by simp [hst]
theorem yfg (n:Nat):hst n []=List.replicate (n+1) 0:=by
  unfold hst
  simp only [List.countP_nil]
  rw [List.map_const',List.length_range]
theorem zeJ {n w:Nat} {rs:List (List Nat)} (h:w≤n):(hst n rs).getD w 0=rs.countP fun r=>wt r==w:=by
  unfold hst
  rw [List.getD_eq_getElem?_getD,List.getElem?_map,List.getElem?_range (by omega)]
  rfl
theorem yfQ {n:Nat} {rs:List (List Nat)} {r:List Nat} (h:wt r≤n):(hst n rs).set (wt r) ((hst n rs).getD (wt r) 0+1)=hst n (rs++[r]):=by
  refine List.ext_getElem (by rw [List.length_set,zbM,zbM]) fun i a1 a2=>?_
  rw [zbM] at a2
  have g:∀ {rs:List (List Nat)} (q:i<(hst n rs).length),(hst n rs)[i]=rs.countP fun r=>wt r==i:=fun q=>by simp [hst]
  rw [List.getElem_set,g,g,zeJ h,List.countP_append]
  by_cases c:wt r=i
  · subst c
    rw [if_pos rfl,List.countP_cons_of_pos (by simp)];rfl
  · rw [if_neg c,List.countP_cons_of_neg (by simpa using c)];rfl
noncomputable def dN (p m t n:Nat) (f:Nat→Nat) (d:List Nat):Nat:=sumF p m n fun i=>mul p m t (f i) (d.getD i 0)
noncomputable def cN (p m t few n:Nat) (f:Nat→Nat) (v a:Nat):Int:=sL (allK (lets p m t few) n) fun d=>if wt d=v∧dN p m t n f d=a then 1 else 0
theorem yc6 (d:List Nat) (x:Nat):wt (d++[x])=wt d+if x=0 then 0 else 1:=by
  rw [zhc]
  congr 1
  by_cases h:x=0
  · rw [if_pos h,h];rfl
  · rw [if_neg h];unfold wt;rw [List.filter_cons_of_pos (by simpa using h)];rfl
theorem yge (d:List Nat):∀n,n≤d.length→wt (d.take n)=wtF (fun i=>d.getD i 0) n
  | 0,_=>rfl
  | n+1,h=>by
    have e:d.take (n+1)=d.take n++[d.getD n 0]:=zbg (by omega)
    rw [e,yc6,yge d n (by omega)]
    rfl
theorem ybd {p m t few:Nat}:(lets p m t few).Nodup:=List.Pairwise.filter _ (List.pairwise_lt_range.imp fun h=>by omega)
theorem zdJ {cs:List Nat} (h:cs.Nodup):∀k,(allK cs k).Nodup
  | 0=>List.nodup_cons.mpr ⟨List.not_mem_nil,List.nodup_nil⟩
  | k+1=>by
    have ih:=zdJ h k
    show List.Nodup ((allK cs k).flatMap fun v=>cs.map fun c=>v++[c])
    generalize allK cs k=vs at ih
    induction vs with
    | nil=>exact List.nodup_nil
    | cons v vs i2 =>
      have hd:=List.nodup_cons.mp ih
      rw [List.flatMap_cons,List.nodup_append]
      refine ⟨?_,i2 hd.2,fun x hx y hy e=>?_⟩
      · rw [List.Nodup,List.pairwise_map]
        exact h.imp fun ne e=>ne (List.singleton_inj.mp (List.append_cancel_left e))
      · obtain ⟨c,_,rfl⟩:=List.mem_map.mp hx
        obtain ⟨u,hu,h2⟩:=List.mem_flatMap.mp hy
        obtain ⟨c',_,rfl⟩:=List.mem_map.mp h2
        exact hd.1 ((List.append_inj_left' e rfl) ▸ hu)
section
variable {p m t few:Nat} (G:Good p m t)
include G
theorem zbs:0∈lets p m t few:=by
  rw [yaE G (zah G.hp G.hm)]
  obtain ⟨q,e⟩:∃q,p^few=q+1:=⟨p^few-1,by have:0<p^few:=Nat.pow_pos (by have:=G.hp;omega);omega⟩
  rw [e];exact ybq G.hp G.hm q
theorem yg7:1∈lets p m t few:=by
  rw [yaE G (zas G.hp G.hm)];exact yaY G.hp G.hm _
theorem zfB {x y:Nat} (hx:x∈lets p m t few) (hy:y∈lets p m t few):sub p m x y∈lets p m t few:=by
  have hp:=G.hp
  have hm:=G.hm
  have bx:=zao x hx
  have b_y:=zao y hy
  have bs:sub p m x y<p^m:=ybj hp hm _ _
  rw [yaE G bx] at hx
  rw [yaE G b_y] at hy
  rw [yaE G bs]
  have h:=G.frobN few bs b_y
  rw [yaF hp hm bx,hx,hy] at h
  exact (zaB hp hm bs (zaA hp hm _ _) ((yaF hp hm bx).trans h)).symm
theorem zeP {a x y:Nat} (a0:0<a) (ha:a<p^m) (hx:x<p^m) (hy:y<p^m) (h:mul p m t a x=mul p m t a y):x=y:=by
  have hp:=G.hp
  have hm:=G.hm
  have:=congrArg (mul p m t (pw p m t a (p^m-2))) h
  rw [←mul_assoc hp hm,←mul_assoc hp hm,G.inv a0 ha,one_mul hp hm hx,one_mul hp hm hy] at this
  exact this
theorem zgA {a x y:Nat} (ha:a<p^m) (hx:x<p^m) (hy:y<p^m) (h:sub p m a x=sub p m a y):x=y:=by
  have hp:=G.hp
  have hm:=G.hm
  have h1:=yaF hp hm (x:=a) (y:=x) ha
  have h2:=yaF hp hm (x:=a) (y:=y) ha
  rw [←h] at h2
  rw [add_comm hp hm] at h1 h2
  exact zaB hp hm hx hy (h1.trans h2.symm)
theorem yeY {n:Nat} {f:Nat→Nat} {d:List Nat} (hf:∀i,f i∈lets p m t few) (hd:∀x∈d,x∈lets p m t few):dN p m t n f d∈lets p m t few:=by
  unfold dN
  induction n with
  | zero=>exact zbs G
  | succ n ih =>
    refine yde G ih (zbV G (hf n) ?_)
    by_cases h:n<d.length
    · rw [show d.getD n 0=d[n] by simp [List.getD,h]];exact hd _ (List.getElem_mem h)
    · rw [show d.getD n 0=0 by simp [List.getD,Nat.le_of_not_lt h]];exact zbs G
theorem yfc {n x:Nat} {f:Nat→Nat} {d:List Nat} (hl:d.length=n):dN p m t (n+1) f (d++[x])=add p m (dN p m t n f d) (mul p m t (f n) x):=by
  show add p m (sumF p m n fun i=>mul p m t (f i) ((d++[x]).getD i 0)) (mul p m t (f n) ((d++[x]).getD n 0))=_
  have e:(d++[x]).getD n 0=x:=by subst hl;simp [List.getD]
  rw [e]
  congr 1
  refine yaf G.hp G.hm _ fun i hi=>?_
  rw [show (d++[x]).getD i 0=d.getD i 0 by simp [List.getD,List.getElem?_append,show i<d.length by omega]]
theorem ygP {n:Nat} {f:Nat→Nat} {d:List Nat}:dN p m t n f d<p^m:=ybT G.hp G.hm _ _
theorem ygF {n a v:Nat} {f:Nat→Nat} (ha:a<p^m):cN p m t few (n+1) f v a=sL (lets p m t few) fun x=>if x=0 then cN p m t few n f v a else sh (fun u=>cN p m t few n f u (sub p m a (mul p m t (f n) x))) v:=by
  have hp:=G.hp
  have hm:=G.hm
  show sL ((allK (lets p m t few) n).flatMap fun v=>(lets p m t few).map fun c=>v++[c]) _=_
  rw [zgj]
  have e1:∀d,sL ((lets p m t few).map fun c=>d++[c]) (fun d=>if wt d=v∧dN p m t (n+1) f d=a then (1:Int) else 0)=sL (lets p m t few) fun x=>if wt (d++[x])=v∧dN p m t (n+1) f (d++[x])=a then (1:Int) else 0:=fun d=>yd6 _ _ _
  rw [zag fun d _=>e1 d,ydf]
  refine zag fun x hx=>?_
  have bx:=zao x hx
  by_cases x0:x=0
  · subst x0
    rw [if_pos rfl]
    refine zag fun d hd=>?_
    rw [yc6,if_pos rfl,Nat.add_zero,yfc G (yaX _ hd).1,mul_zero hp hm,add_zero hp hm (ygP G)]
  · rw [if_neg x0]
    cases v with
    | zero =>
      show _=(0:Int)
      rw [zag (h:=fun _=>0) fun d hd=>if_neg (by rw [yc6,if_neg x0];omega),yb2]
    | succ u =>
      show _=cN p m t few n f u _
      refine zag fun d hd=>?_
      rw [yc6,if_neg x0,yfc G (yaX _ hd).1]
      have e:(wt d+1=u+1∧add p m (dN p m t n f d) (mul p m t (f n) x)=a)↔(wt d=u∧dN p m t n f d=sub p m a (mul p m t (f n) x)):=by
        constructor
        · rintro ⟨h1,h2⟩
          exact ⟨by omega,by rw [←h2,zbr hp hm (ygP G)]⟩
        · rintro ⟨h1,h2⟩
          exact ⟨by omega,by rw [h2,yaF hp hm ha]⟩
      by_cases c:wt d=u∧dN p m t n f d=sub p m a (mul p m t (f n) x)
      · rw [if_pos c,if_pos (e.mpr c)]
      · rw [if_neg c,if_neg fun h=>c (e.mp h)]
theorem zgm (hfm:m%few=0) (hf1:1≤few) {f:Nat→Nat} (hf:∀i,f i∈lets p m t few):∀n a v,a∈lets p m t few→
    ((p^few:Nat):Int)*cN p m t few n f v a=kF ((p^few:Nat):Int) (fun _=>0) n v+(if a=0 then ((p^few:Nat):Int)-1 else -1)*kF ((p^few:Nat):Int) f n v
  | 0,a,v,ha=>by
    show _*sL [[]] _=(if v=0 then (1:Int) else 0)+_*(if v=0 then (1:Int) else 0)
    rw [yao,zcI]
    have e:(wt []=v∧dN p m t 0 f []=a)↔(v=0∧a=0):=⟨fun h=>⟨h.1.symm,h.2.symm⟩,fun h=>⟨h.1.symm,h.2.symm⟩⟩
    by_cases c:v=0
    · by_cases d:a=0
      · rw [if_pos (e.mpr ⟨c,d⟩),if_pos c,if_pos d];omega
      · rw [if_neg fun h=>d (e.mp h).2,if_pos c,if_neg d];omega
    · rw [if_neg fun h=>c (e.mp h).1,if_neg c];omega
  | n+1,a,v,ha=>by
    have hp:=G.hp
    have hm:=G.hm
    have ba:=zao a ha
    have hL:((lets p m t few).length:Int)=((p^few:Nat):Int):=by rw [zdV G hfm hf1]
    have ih:=zgm hfm hf1 hf n
    rw [ygF G ba,ybH _ ybd (zbs G),if_pos rfl]
    show _=(kF _ (fun _=>0) n v+(if (0:Nat)=0 then ((p^few:Nat):Int)-1 else -1)*sh (kF _ (fun _=>0) n) v)+_*(kF _ f n v+(if f n=0 then ((p^few:Nat):Int)-1 else -1)*sh (kF _ f n) v)
    rw [if_pos rfl]
    have e0:sL (lets p m t few) (fun x=>if x=0 then (0:Int) else (fun x=>if x=0 then cN p m t few n f v a else sh (fun u=>cN p m t few n f u (sub p m a (mul p m t (f n) x))) v) x)=sL (lets p m t few) fun x=>if x=0 then (0:Int) else sh (fun u=>cN p m t few n f u (sub p m a (mul p m t (f n) x))) v:=zag fun x _=>by
      by_cases c:x=0
      · rw [if_pos c,if_pos c]
      · rw [if_neg c,if_neg c];exact if_neg c
    try dsimp only at e0
    have key:((p^few:Nat):Int)*sL (lets p m t few) (fun x=>if x=0 then (0:Int) else sh (fun u=>cN p m t few n f u (sub p m a (mul p m t (f n) x))) v)=(((p^few:Nat):Int)-1)*sh (kF ((p^few:Nat):Int) (fun _=>0) n) v+(if a=0 then ((p^few:Nat):Int)-1 else -1)*((if f n=0 then ((p^few:Nat):Int)-1 else -1)*sh (kF ((p^few:Nat):Int) f n) v):=by
      cases v with
      | zero =>
        show _*sL _ (fun x=>if x=0 then (0:Int) else 0)=_*0+_*(_*0)
        rw [zag (h:=fun _=>0) fun x _=>by split <;> rfl,yb2];simp
      | succ u =>
        show _*sL _ (fun x=>if x=0 then (0:Int) else cN p m t few n f u (sub p m a (mul p m t (f n) x)))=_*kF _ (fun _=>0) n u+_*(_*kF _ f n u)
        have iu:=ih a u ha
        have one:∀c:Int,((p^few:Nat):Int)*c=c+sL (lets p m t few) (fun x=>if x=0 then 0 else c):=fun c=>by
          rw [←hL,←ya1];exact ybH (fun _=>c) ybd (zbs G)
        by_cases fz:f n=0
        · rw [if_pos fz]
          have e1:∀x,(if x=0 then (0:Int) else cN p m t few n f u (sub p m a (mul p m t (f n) x)))=if x=0 then 0 else cN p m t few n f u a:=fun x=>by
            have:sub p m a 0=a:=by
              have:=yaF hp hm (x:=a) (y:=0) ba
              rwa [add_zero hp hm (ybj hp hm _ _)] at this
            rw [fz,zero_mul hp hm,this]
          rw [zag fun x _=>e1 x]
          have h1:=one (cN p m t few n f u a)
          generalize sL (lets p m t few) (fun x=>if x=0 then (0:Int) else cN p m t few n f u a)=S at h1 ⊢
          generalize cN p m t few n f u a=C at h1 iu
          generalize (if a=0 then ((p^few:Nat):Int)-1 else -1)=e at iu ⊢
          generalize kF ((p^few:Nat):Int) (fun _=>0) n u=A at iu ⊢
          generalize kF ((p^few:Nat):Int) f n u=B at iu ⊢
          generalize ((p^few:Nat):Int)=q at *
          have:S=q*C-C:=by omega
          grind
        · rw [if_neg fz]
          have f0:0<f n:=Nat.pos_of_ne_zero fz
          have fb:=zao _ (hf n)
          have inj:∀x∈lets p m t few,∀y∈lets p m t few,sub p m a (mul p m t (f n) x)=sub p m a (mul p m t (f n) y)→x=y:=fun x hx y hy h =>
            zeP G f0 fb (zao x hx) (zao y hy) (zgA G ba (zap hp hm _ _) (zap hp hm _ _) h)
          have sa:sub p m a (mul p m t (f n) 0)=a:=by
            have:=yaF hp hm (x:=a) (y:=0) ba
            rw [add_zero hp hm (ybj hp hm _ _)] at this
            rw [mul_zero hp hm,this]
          have perm:((lets p m t few).map fun x=>sub p m a (mul p m t (f n) x)).Perm (lets p m t few):=by
            refine zbX ?_ (fun y hy=>?_) (by rw [List.length_map];exact Nat.le_refl _)
            · rw [List.Nodup,List.pairwise_map]
              exact List.Pairwise.imp_of_mem (fun {x y} hx hy ne e=>ne (inj x hx y hy e)) ybd
            · obtain ⟨x,hx,rfl⟩:=List.mem_map.mp hy
              exact zfB G ha (zbV G (hf n) hx)
          have e1:sL (lets p m t few) (fun x=>if x=0 then (0:Int) else cN p m t few n f u (sub p m a (mul p m t (f n) x)))=sL (lets p m t few) fun b=>if b=a then 0 else cN p m t few n f u b:=by
            have h7:=ycT perm fun b=>if b=a then (0:Int) else cN p m t few n f u b
            rw [yd6] at h7
            rw [←h7]
            refine zag fun x hx=>?_
            by_cases c:x=0
            · subst c;rw [if_pos rfl,sa,if_pos rfl]
            · rw [if_neg c,if_neg fun e=>c (inj x hx 0 (zbs G) (e.trans sa.symm))]
          have h2:=ybH (fun b=>cN p m t few n f u b) ybd ha
          try dsimp only at h2
          have h3:((p^few:Nat):Int)*sL (lets p m t few) (fun b=>cN p m t few n f u b)=((p^few:Nat):Int)*kF ((p^few:Nat):Int) (fun _=>0) n u:=by
            rw [←yb6,zag fun b hb=>ih b u hb,yd7,ya1,hL]
            rw [zag (h:=fun b=>kF ((p^few:Nat):Int) f n u*(if b=0 then ((p^few:Nat):Int)-1 else -1)) fun b _=>Int.mul_comm _ _,yb6,ybH _ ybd (zbs G),if_pos rfl]
            have h4:=one (-1)
            have h5:sL (lets p m t few) (fun x=>if x=0 then (0:Int) else if x=0 then ((p^few:Nat):Int)-1 else -1)=sL (lets p m t few) (fun x=>if x=0 then (0:Int) else -1):=zag fun x _=>by
              by_cases c:x=0
              · rw [if_pos c,if_pos c]
              · rw [if_neg c,if_neg c,if_neg c]
            rw [h5]
            rw [show ((p^few:Nat):Int)-1+sL (lets p m t few) (fun x=>if x=0 then (0:Int) else -1)=0 by omega,Int.mul_zero];omega
          rw [e1]
          generalize sL (lets p m t few) (fun b=>if b=a then (0:Int) else cN p m t few n f u b)=S at h2 ⊢
          generalize sL (lets p m t few) (fun b=>cN p m t few n f u b)=X at h2 h3
          generalize cN p m t few n f u a=C at h2 iu
          generalize (if a=0 then ((p^few:Nat):Int)-1 else -1)=e at iu ⊢
          generalize kF ((p^few:Nat):Int) (fun _=>0) n u=A at iu h3 ⊢
          generalize kF ((p^few:Nat):Int) f n u=B at iu ⊢
          generalize ((p^few:Nat):Int)=q at *
          have:S=X-C:=by omega
          grind
    have iv:=ih a v ha
    rw [e0,Int.mul_add,iv,key,Int.mul_add]
    omega
theorem zgW (hfm:m%few=0) (hf1:1≤few) (n v:Nat):sL (allK (lets p m t few) n) (fun d=>if wt d=v then (1:Int) else 0)=kF ((p^few:Nat):Int) (fun _=>0) n v:=by
  have h:=zgm G hfm hf1 (f:=fun _=>0) (fun _=>zbs G) n 0 v (zbs G)
  rw [if_pos rfl] at h
  have e:cN p m t few n (fun _=>0) v 0=sL (allK (lets p m t few) n) fun d=>if wt d=v then (1:Int) else 0:=zag fun d _=>by
    have z:dN p m t n (fun _=>0) d=0:=by
      unfold dN
      rw [yaf G.hp G.hm (g:=fun _=>0) n fun i _=>zero_mul G.hp G.hm _,zc7 G.hp G.hm]
    by_cases c:wt d=v
    · rw [if_pos c,if_pos ⟨c,z⟩]
    · rw [if_neg c,if_neg fun h=>c h.1]
  rw [←e]
  have q0:(0:Int)<((p^few:Nat):Int):=by
    have:0<p^few:=Nat.pow_pos (by have:=G.hp;omega)
    omega
  refine Int.eq_of_mul_eq_mul_left (Int.ne_of_gt q0) ?_
  rw [h]
  generalize kF ((p^few:Nat):Int) (fun _=>0) n v=A
  generalize ((p^few:Nat):Int)=q
  grind
end
end My
end
section
-- text: M58c
set_option Elab.async false
set_option linter.all false
set_option maxRecDepth 100000
set_option maxHeartbeats 4000000
namespace My
open PySem L2 Dg
theorem zcN {l:List Nat} {i:Nat} (h:i<l.length):l.getD i 0=l[i]:=by simp [List.getD,h]
theorem yeh {p m j:Nat} (hp:2≤p) (hm:1≤m) {F F':Nat→Nat} (h1:∀i,F i<p^m) (h2:∀i,F' i<p^m) (h:∀i,i≠j→F i=F' i):∀ {n},j<n→sumF p m n F=sumF p m n F'→F j=F' j
  | 0,hj,_=>absurd hj (by omega)
  | n+1,hj,e=>by
    have e:add p m (sumF p m n F) (F n)=add p m (sumF p m n F') (F' n):=e
    by_cases c:j=n
    · subst c
      rw [yaf hp hm (g:=F') j fun i hi=>h i (by omega),add_comm hp hm,add_comm hp hm (sumF p m j F')] at e
      exact zaB hp hm (h1 _) (h2 _) e
    · rw [h n (by omega)] at e
      exact yeh hp hm h1 h2 h (by omega) (zaB hp hm (ybT hp hm _ _) (ybT hp hm _ _) e)
theorem yeL {α:Type} [DecidableEq α]:∀ {l l':List α},l.Nodup→(∀x∈l,x∈l')→l.length≤l'.length
  | [],_,_,_=>Nat.zero_le _
  | x::l,l',hd,h=>by
    have hd':=List.nodup_cons.mp hd
    have hx:=h x List.mem_cons_self
    have:=yeL (l:=l) (l':=l'.erase x) hd'.2 fun y hy=>(List.mem_erase_of_ne (fun e=>hd'.1 (by rw [←e];exact hy))).mpr (h y (List.mem_cons_of_mem _ hy))
    rw [List.length_erase_of_mem hx] at this
    have:=List.length_pos_of_mem hx
    rw [List.length_cons];omega
theorem zbO {marks:List Nat} {n:Nat} (ha:marks.Pairwise (· < ·)) (hl:∀x∈marks,x<n):(zaw marks n).length+marks.length=n:=by
  have nd:marks.Nodup:=ha.imp fun h=>by omega
  have h1:((List.range n).filter fun i=>decide ((n-i)%n∈marks)).length=marks.length:=by
    refine Nat.le_antisymm ?_ ?_
    · have:=ybZ (l:=((List.range n).filter fun i=>decide ((n-i)%n∈marks)).map fun i=>(n-i)%n) (l':=marks) ?_ ?_
      · rwa [List.length_map] at this
      · rw [List.Nodup,List.pairwise_map]
        refine List.Pairwise.imp_of_mem (fun {a b} h1 h2 ne e=>ne ?_) (List.Pairwise.filter _ (List.nodup_range (n:=n)))
        have h1:=List.mem_range.mp (List.mem_filter.mp h1).1
        have h2:=List.mem_range.mp (List.mem_filter.mp h2).1
        rw [←za8 h1,e,za8 h2]
      · intro x hx
        obtain ⟨i,hi,rfl⟩:=List.mem_map.mp hx
        exact of_decide_eq_true (List.mem_filter.mp hi).2
    · have:=ybZ (l:=marks.map fun i=>(n-i)%n) (l':=(List.range n).filter fun i=>decide ((n-i)%n∈marks)) ?_ ?_
      · rwa [List.length_map] at this
      · rw [List.Nodup,List.pairwise_map]
        refine List.Pairwise.imp_of_mem (fun {a b} h1 h2 ne e=>ne ?_) nd
        rw [←za8 (hl _ h1),e,za8 (hl _ h2)]
      · intro x hx
        obtain ⟨i,hi,rfl⟩:=List.mem_map.mp hx
        have:=hl i hi
        refine List.mem_filter.mpr ⟨List.mem_range.mpr (Nat.mod_lt _ (by omega)),decide_eq_true ?_⟩
        rw [za8 this];exact hi
  have h2:=List.length_eq_countP_add_countP (fun i=>decide ((n-i)%n∈marks)) (l:=List.range n)
  rw [List.countP_eq_length_filter,List.countP_eq_length_filter,h1,List.length_range] at h2
  have h3:((List.range n).filter fun a=>decide ¬ decide ((n-a)%n∈marks)=true)=zaw marks n:=by
    unfold zaw
    refine List.filter_congr fun i _=>?_
    by_cases c:(n-i)%n∈marks <;> simp [c]
  rw [h3] at h2
  omega
section
variable {p m t few root n fr:Nat} {marks:List Nat} (G:Good p m t) (W:Whl p m t few root n marks)
include G W
theorem Whl.face:Whl p m t few root n (zaw marks n):=by
  have hp:=G.hp
  have hm:=G.hm
  have hf1:=W.few1
  have hn:=W.ord.pos
  refine ⟨W.few1,W.fewm,W.r0,W.rq,W.ord,W.nq,zek _ _,fun x hx=>(zby.mp hx).1,fun x hx=>?_⟩
  obtain ⟨hx1,hx2⟩:=zby.mp hx
  refine zby.mpr ⟨Nat.mod_lt _ hn,fun hy=>hx2 ?_⟩
  have hfm:few≤m:=Nat.le_of_dvd (by omega) (Nat.dvd_of_mod_eq_zero W.fewm)
  have he1:1≤m/few:=Nat.div_pos hfm (by omega)
  have hr:=W.ord.round G W.r0 W.rq W.fewm hf1
  have h1:=zcO W.lt W.closed hy (m/few*1-1)
  have h2:=ybS hr he1 x 1
  rw [Nat.pow_one,Nat.mod_eq_of_lt hx1] at h2
  generalize (p^few)^(m/few*1-1)=k at h1 h2
  have h3:(n-x*p^few%n)%n*k%n=(n-x)%n:=by
    have r1:x*p^few%n<n:=Nat.mod_lt _ hn
    have a1:((n-x*p^few%n)%n+x*p^few)%n=0:=by
      rw [Nat.add_mod,Nat.mod_mod]
      rcases Nat.eq_zero_or_pos (x*p^few%n) with z|z
      · rw [z,Nat.sub_zero,Nat.mod_self,Nat.add_zero,Nat.zero_mod]
      · rw [Nat.mod_eq_of_lt (show n-x*p^few%n<n by omega),show n-x*p^few%n+x*p^few%n=n by omega,Nat.mod_self]
    have a2:((n-x*p^few%n)%n*k+x*p^few*k)%n=0:=by
      rw [←Nat.add_mul,←Nat.mod_mul_mod,a1,Nat.zero_mul,Nat.zero_mod]
    rw [Nat.add_mod,h2] at a2
    have z1:(n-x*p^few%n)%n*k%n<n:=Nat.mod_lt _ hn
    generalize (n-x*p^few%n)%n*k%n=z at a2 z1 ⊢
    have d:=Nat.dvd_of_mod_eq_zero a2
    obtain ⟨c,hc⟩:=d
    rcases Nat.lt_or_ge c 1 with h|h
    · rw [show c=0 by omega,Nat.mul_zero] at hc
      rw [show x=0 by omega,Nat.sub_zero,Nat.mod_self];omega
    · have c1:c=1:=by
        rcases Nat.lt_or_ge c 2 with h2|h2
        · omega
        · have:=Nat.mul_le_mul_left n h2;omega
      rw [c1,Nat.mul_one] at hc
      rw [Nat.mod_eq_of_lt (show n-x<n by omega)];omega
  rw [h3] at h1
  exact h1
variable (hfr:fr+marks.length=n)
include hfr
theorem yfo {r:List Nat} (hr:r∈allK (lets p m t few) fr):∃v∈lwL p m t root n marks few fr,v.drop marks.length=r:=by
  have eA:=zd1 (few:=few) (root:=root) G hfr fr (Nat.le_refl _)
  rw [Nat.sub_self] at eA
  have h:r∈(wdL p m t root marks few fr fr).map (List.drop marks.length):=by
    rw [eA];exact List.mem_map.mpr ⟨r,hr,List.append_nil _⟩
  obtain ⟨v,hv,e⟩:=List.mem_map.mp h
  exact ⟨v,(yet G W hfr).mem_iff.mp hv,e⟩
theorem zgQ {u:List Nat} (hl:u.length=n) (hu:∀x∈u,x∈lets p m t few) (hz:∀k∈marks,val p m t (pw p m t root k) u=0):u∈lwL p m t root n marks few fr:=by
  obtain ⟨v,hv,e⟩:=yfo G W hfr (r:=u.drop marks.length) (zbC _ (by rw [List.length_drop];omega) fun x hx=>hu x (List.mem_of_mem_drop hx))
  have hok:=yaW (root:=root) (marks:=marks) (n:=n) (few:=few) G fr (by omega) v hv
  have e1:=zbQ G W hok.1 (by omega) hok.2.1 hok.2.2
  have e2:=zbQ G W hl (by omega) (fun x hx=>zao x (hu x hx)) hz
  rw [e,e2] at e1
  rw [e1];exact hv
theorem zgg {u:List Nat} (h:u∈lwL p m t root n marks few fr):u∈allK (lets p m t few) n :=
  zbC _ (yaW (root:=root) (marks:=marks) (n:=n) (few:=few) G fr (by omega) u h).1 (zaR G W fr u h)
theorem yaP {c:List Nat} (h:∀x∈c,x∈lets p m t few):∀i,c.getD i 0∈lets p m t few:=fun i=>by
  by_cases hi:i<c.length
  · rw [zcN hi];exact h _ (List.getElem_mem hi)
  · rw [show c.getD i 0=0 by simp [List.getD,Nat.le_of_not_lt hi]];exact zbs G
theorem zeg {c d:List Nat} (hc:c∈lwL p m t root n marks few fr) (hd:d∈lwL p m t root n (zaw marks n) few marks.length):dN p m t n (fun i=>c.getD i 0) d=0:=by
  have hp:=G.hp
  have hm:=G.hm
  have fn:=zbO W.asc W.lt
  have h1:=yaW (root:=root) (marks:=marks) (n:=n) (few:=few) G fr (by omega) c hc
  have h2:=yaW (root:=root) (marks:=zaw marks n) (n:=n) (few:=few) G marks.length (by omega) d hd
  have e:=G.inv W.r0 W.rq
  have hs:=zaA (t:=t) hp hm root (p^m-2)
  have z:=zfW G W.r0 W.rq hs e W.ord h1.1 h2.1 h1.2.1 h2.2.1 fun i hi=>by
    by_cases c:i∈marks
    · exact .inl (h1.2.2 i c)
    · rw [ygO G W.rq hs e W.ord hi]
      exact .inr (h2.2.2 _ (zby.mpr ⟨Nat.mod_lt _ (by omega),by rw [za8 hi];exact c⟩))
  unfold dot at z
  rw [h1.1,h2.1,Nat.min_self] at z
  exact z
theorem ygB {d:List Nat} (hd:d∈allK (lets p m t few) n) (h:∀c∈lwL p m t root n marks few fr,dN p m t n (fun i=>c.getD i 0) d=0):d∈lwL p m t root n (zaw marks n) few marks.length:=by
  have hp:=G.hp
  have hm:=G.hm
  have fn:=zbO W.asc W.lt
  obtain ⟨S,eS⟩:∃S,S=(allK (lets p m t few) n).filter fun d=>(lwL p m t root n marks few fr).all fun c=>decide (dN p m t n (fun i=>c.getD i 0) d=0):=⟨_,rfl⟩
  have mS:∀x,x∈S↔x∈allK (lets p m t few) n∧∀c∈lwL p m t root n marks few fr,dN p m t n (fun i=>c.getD i 0) x=0:=fun x=>by
    rw [eS,List.mem_filter,List.all_eq_true]
    exact ⟨fun h=>⟨h.1,fun c hc=>of_decide_eq_true (h.2 c hc)⟩,fun h=>⟨h.1,fun c hc=>decide_eq_true (h.2 c hc)⟩⟩
  have sS:S.length≤(lets p m t few).length^marks.length:=by
    have:=yeL (l:=S.map (List.take marks.length)) (l':=allK (lets p m t few) marks.length) ?_ ?_
    · rwa [List.length_map,zc9] at this
    · rw [List.Nodup,List.pairwise_map]
      refine List.Pairwise.imp_of_mem (fun {a b} h1 h2 ne e=>ne ?_) (eS ▸ List.Pairwise.filter _ (zdJ ybd n))
      obtain ⟨a1,a2⟩:=(mS a).mp h1
      obtain ⟨b1,b2⟩:=(mS b).mp h2
      have ra:=yaX _ a1
      have rb:=yaX _ b1
      have low:∀i,i<marks.length→a.getD i 0=b.getD i 0:=fun i hi=>by
        have:=congrArg (fun l:List Nat=>l.getD i 0) e
        simpa [List.getD,List.getElem?_take,hi] using this
      have hall:∀i,i<n→a.getD i 0=b.getD i 0:=fun i hi=>by
        rcases Nat.lt_or_ge i marks.length with c|c
        · exact low i c
        obtain ⟨v,hv,ev⟩:=yfo G W hfr (r:=(List.range fr).map fun j=>if j=i-marks.length then 1 else 0) (zbC _ (by rw [List.length_map,List.length_range]) fun x hx=>by
          obtain ⟨j,_,rfl⟩:=List.mem_map.mp hx
          split
          · exact yg7 G
          · exact zbs G)
        have ve:∀j,j<fr→v.getD (marks.length+j) 0=if j=i-marks.length then 1 else 0:=fun j hj=>by
          have:=congrArg (fun l:List Nat=>l.getD j 0) ev
          try dsimp only at this
          rw [rget hj] at this
          rw [←this]
          simp [List.getD]
        have la:∀j,a.getD j 0<p^m:=fun j=>zao _ (yaP G W hfr ra.2 j)
        have lb:∀j,b.getD j 0<p^m:=fun j=>zao _ (yaP G W hfr rb.2 j)
        have key:=yeh (n:=n) (j:=i) hp hm (F:=fun j=>mul p m t (v.getD j 0) (a.getD j 0)) (F':=fun j=>mul p m t (v.getD j 0) (b.getD j 0)) (fun j=>zap hp hm _ _) (fun j=>zap hp hm _ _) (fun j hj=>?_) hi ((a2 v hv).trans (b2 v hv).symm)
        · try dsimp only at key
          have v1:=ve (i-marks.length) (by omega)
          rw [show marks.length+(i-marks.length)=i by omega,if_pos rfl] at v1
          rw [v1,one_mul hp hm (la i),one_mul hp hm (lb i)] at key
          exact key
        · rcases Nat.lt_or_ge j marks.length with c2|c2
          · rw [low j c2]
          · rcases Nat.lt_or_ge j n with c3|c3
            · have v1:=ve (j-marks.length) (by omega)
              rw [show marks.length+(j-marks.length)=j by omega,if_neg (by omega)] at v1
              rw [v1,zero_mul hp hm,zero_mul hp hm]
            · rw [show a.getD j 0=0 by simp [List.getD,ra.1,c3],show b.getD j 0=0 by simp [List.getD,rb.1,c3]]
      refine List.ext_getElem (ra.1.trans rb.1.symm) fun i i1 i2=>?_
      have:=hall i (by rw [←ra.1];exact i1)
      rwa [zcN i1,zcN i2] at this
    · intro x hx
      obtain ⟨y,hy,rfl⟩:=List.mem_map.mp hx
      have ry:=yaX _ ((mS y).mp hy).1
      exact zbC _ (by rw [List.length_take,ry.1];omega) fun z hz=>ry.2 z (List.mem_of_mem_take hz)
  have F:=Whl.face G W
  have perm:=zbX (l:=lwL p m t root n (zaw marks n) few marks.length) (s:=S) (yfd G _ (by omega)) (fun x hx=>(mS x).mpr ⟨zgg G F (by omega) hx,fun c hc=>zeg G W hfr hc hx⟩) (by rw [zcv];exact sS)
  exact perm.mem_iff.mpr ((mS d).mpr ⟨hd,h⟩)
theorem zfE {c c0:List Nat} {k:Nat} (hc:c∈lwL p m t root n marks few fr) (h0:c0∈lwL p m t root n marks few fr) (hk:k∈lets p m t few):addL p m c (yar p m t k c0)∈lwL p m t root n marks few fr:=by
  have o1:=yaW (root:=root) (marks:=marks) (n:=n) (few:=few) G fr (by omega)
  have o2:=o1 c0 h0
  have h:=WOk.more G (c:=k) (ws:=[c]) (fun u hu=>by rw [List.mem_singleton.mp hu];exact o1 c hc) o2.1 o2.2.1 o2.2.2 _ (List.mem_map.mpr ⟨c,List.mem_singleton.mpr rfl,rfl⟩)
  refine zgQ G W hfr h.1 (fun x hx=>?_) h.2.2
  obtain ⟨i,hi,rfl⟩:=List.mem_map.mp hx
  refine yde G (yaP G W hfr (zaR G W fr c hc) i) (yaP G W hfr (fun y hy=>?_) i)
  obtain ⟨j,hj,rfl⟩:=List.mem_map.mp hy
  exact zbV G hk (yaP G W hfr (zaR G W fr c0 h0) j)
theorem yfU {c c0 d:List Nat} {k:Nat} (lc:c.length=n) (l0:c0.length=n):dN p m t n (fun i=>(addL p m c (yar p m t k c0)).getD i 0) d=add p m (dN p m t n (fun i=>c.getD i 0) d) (mul p m t k (dN p m t n (fun i=>c0.getD i 0) d)):=by
  have hp:=G.hp
  have hm:=G.hm
  unfold dN
  rw [mul_comm hp hm k,←zaQ hp hm,←zb2 hp hm]
  refine yaf hp hm _ fun i hi=>?_
  show mul p m t ((addL p m c (yar p m t k c0)).getD i 0) (d.getD i 0)=add p m (mul p m t (c.getD i 0) (d.getD i 0)) (mul p m t (mul p m t (c0.getD i 0) (d.getD i 0)) k)
  rw [ybz G lc (by rw [ybs];exact l0) hi,ybw G l0 hi,add_mul hp hm,mul_comm hp hm k,mul_assoc hp hm,mul_comm hp hm k,mul_assoc hp hm]
theorem zf1 {c0 d:List Nat} {k:Nat} (h0:c0∈lwL p m t root n marks few fr) (hk:k∈lets p m t few):sL (lwL p m t root n marks few fr) (fun c=>if dN p m t n (fun i=>c.getD i 0) d=mul p m t k (dN p m t n (fun i=>c0.getD i 0) d) then (1:Int) else 0)=sL (lwL p m t root n marks few fr) fun c=>if dN p m t n (fun i=>c.getD i 0) d=0 then (1:Int) else 0:=by
  have hp:=G.hp
  have hm:=G.hm
  have o1:=yaW (root:=root) (marks:=marks) (n:=n) (few:=few) G fr (by omega)
  have l0:=(o1 c0 h0).1
  have perm:((lwL p m t root n marks few fr).map fun c=>addL p m c (yar p m t k c0)).Perm (lwL p m t root n marks few fr):=by
    refine zbX ?_ (fun y hy=>?_) (by rw [List.length_map];exact Nat.le_refl _)
    · rw [List.Nodup,List.pairwise_map]
      refine List.Pairwise.imp_of_mem (fun {a b} ha hb ne e=>ne ?_) (yfd G fr (by omega))
      have h1:=o1 a ha
      have h2:=o1 b hb
      refine List.ext_getElem (h1.1.trans h2.1.symm) fun i i1 i2=>?_
      have:=congrArg (fun l:List Nat=>l.getD i 0) e
      try dsimp only at this
      rw [ybz G h1.1 (by rw [ybs];exact l0) (by omega),ybz G h2.1 (by rw [ybs];exact l0) (by omega),zcN i1,zcN i2] at this
      exact zaB hp hm (h1.2.1 _ (List.getElem_mem i1)) (h2.2.1 _ (List.getElem_mem i2)) this
    · obtain ⟨c,hc,rfl⟩:=List.mem_map.mp hy
      exact zfE G W hfr hc h0 hk
  rw [←ycT perm,yd6]
  refine zag fun c hc=>?_
  rw [yfU G W hfr (o1 c hc).1 l0]
  have hx:mul p m t k (dN p m t n (fun i=>c0.getD i 0) d)<p^m:=zap hp hm _ _
  generalize mul p m t k (dN p m t n (fun i=>c0.getD i 0) d)=y at hx
  have hD:dN p m t n (fun i=>c.getD i 0) d<p^m:=ybT hp hm _ _
  generalize dN p m t n (fun i=>c.getD i 0) d=D at hD
  by_cases z:D=0
  · rw [if_pos z,z,zero_add hp hm hx,if_pos rfl]
  · rw [if_neg z,if_neg fun e=>z (zaB hp hm (c:=y) hD (zah hp hm) (by rw [e,zero_add hp hm hx]))]
theorem zhs {c0 d:List Nat} (hd:∀x∈d,x∈lets p m t few) (h0:c0∈lwL p m t root n marks few fr) (hne:dN p m t n (fun i=>c0.getD i 0) d≠0):((p^few:Nat):Int)*sL (lwL p m t root n marks few fr) (fun c=>if dN p m t n (fun i=>c.getD i 0) d=0 then (1:Int) else 0)=((lwL p m t root n marks few fr).length:Int):=by
  have hp:=G.hp
  have hm:=G.hm
  have hL:((lets p m t few).length:Int)=((p^few:Nat):Int):=by rw [zdV G W.fewm W.few1]
  have aL:dN p m t n (fun i=>c0.getD i 0) d∈lets p m t few:=yeY G (yaP G W hfr (zaR G W fr c0 h0)) hd
  have perm:((lets p m t few).map fun k=>mul p m t k (dN p m t n (fun i=>c0.getD i 0) d)).Perm (lets p m t few):=by
    refine zbX ?_ (fun y hy=>?_) (by rw [List.length_map];exact Nat.le_refl _)
    · rw [List.Nodup,List.pairwise_map]
      refine List.Pairwise.imp_of_mem (fun {a b} ha hb ne e=>ne ?_) ybd
      rw [mul_comm hp hm a,mul_comm hp hm b] at e
      exact zeP G (Nat.pos_of_ne_zero hne) (zao _ aL) (zao a ha) (zao b hb) e
    · obtain ⟨k,hk,rfl⟩:=List.mem_map.mp hy
      exact zbV G hk aL
  have h1:sL (lets p m t few) (fun b=>sL (lwL p m t root n marks few fr) fun c=>if dN p m t n (fun i=>c.getD i 0) d=b then (1:Int) else 0)=((lwL p m t root n marks few fr).length:Int):=by
    rw [ydf]
    have e:∀c∈lwL p m t root n marks few fr,sL (lets p m t few) (fun b=>if dN p m t n (fun i=>c.getD i 0) d=b then (1:Int) else 0)=1:=fun c hc=>by
      rw [ybH _ ybd (yeY G (yaP G W hfr (zaR G W fr c hc)) hd),if_pos rfl,zag (h:=fun _=>0) fun x _=>?_,yb2];rfl
      by_cases z:x=dN p m t n (fun i=>c.getD i 0) d
      · rw [if_pos z]
      · rw [if_neg z,if_neg fun e=>z e.symm]
    rw [zag e,ya1,Int.mul_one]
  rw [←ycT perm,yd6,zag fun k hk=>zf1 G W hfr h0 hk,ya1,hL] at h1
  exact h1
theorem mac (v:Nat):sL (lwL p m t root n marks few fr) (fun c=>kS ((p^few:Nat):Int) (wt c) n v)=((lwL p m t root n marks few fr).length:Int)*sL (lwL p m t root n (zaw marks n) few marks.length) fun d=>if wt d=v then (1:Int) else 0:=by
  have hp:=G.hp
  have hm:=G.hm
  have fn:=zbO W.asc W.lt
  have F:=Whl.face G W
  have o1:=yaW (root:=root) (marks:=marks) (n:=n) (few:=few) G fr (by omega)
  have q2:2≤p^few:=Nat.le_trans hp (Nat.le_self_pow (by have:=W.few1;omega) p)
  have eA:sL (lwL p m t root n marks few fr) (fun c=>((p^few:Nat):Int)*cN p m t few n (fun i=>c.getD i 0) v 0)=((lwL p m t root n marks few fr).length:Int)*kF ((p^few:Nat):Int) (fun _=>0) n v+(((p^few:Nat):Int)-1)*sL (lwL p m t root n marks few fr) (fun c=>kS ((p^few:Nat):Int) (wt c) n v):=by
    rw [←ya1,←yb6,←yd7]
    refine zag fun c hc=>?_
    rw [zgm G W.fewm W.few1 (yaP G W hfr (zaR G W fr c hc)) n 0 v (zbs G),if_pos rfl,kF_S,kF_S,←yge c n (by rw [(o1 c hc).1];exact Nat.le_refl _),List.take_of_length_le (by rw [(o1 c hc).1];exact Nat.le_refl _)]
  have eC:∀d∈allK (lets p m t few) n,((p^few:Nat):Int)*sL (lwL p m t root n marks few fr) (fun c=>if dN p m t n (fun i=>c.getD i 0) d=0 then (1:Int) else 0)=((lwL p m t root n marks few fr).length:Int)+if d∈lwL p m t root n (zaw marks n) few marks.length then (((p^few:Nat):Int)-1)*((lwL p m t root n marks few fr).length:Int) else 0:=fun d hd=>by
    by_cases c:d∈lwL p m t root n (zaw marks n) few marks.length
    · rw [if_pos c,zag (h:=fun _=>1) fun x hx=>if_pos (zeg G W hfr hx c),ya1,Int.mul_one,Int.sub_mul];omega
    · rw [if_neg c,Int.add_zero]
      obtain ⟨c0,h0,hne⟩:∃c0,c0∈lwL p m t root n marks few fr∧dN p m t n (fun i=>c0.getD i 0) d≠0:=Classical.byContradiction fun h=>c (ygB G W hfr hd fun x hx=>Classical.byContradiction fun e=>h ⟨x,hx,e⟩)
      exact zhs G W hfr (yaX _ hd).2 h0 hne
  have perm:((allK (lets p m t few) n).filter fun d=>decide (d∈lwL p m t root n (zaw marks n) few marks.length)).Perm (lwL p m t root n (zaw marks n) few marks.length):=by
    refine (List.perm_ext_iff_of_nodup (List.Pairwise.filter _ (zdJ ybd n)) (yfd G _ (by omega))).mpr fun x=>?_
    rw [List.mem_filter,decide_eq_true_iff]
    exact ⟨fun h=>h.2,fun h=>⟨zgg G F (by omega) h,h⟩⟩
  have eB:sL (lwL p m t root n marks few fr) (fun c=>((p^few:Nat):Int)*cN p m t few n (fun i=>c.getD i 0) v 0)=((lwL p m t root n marks few fr).length:Int)*kF ((p^few:Nat):Int) (fun _=>0) n v+((((p^few:Nat):Int)-1)*((lwL p m t root n marks few fr).length:Int))*sL (lwL p m t root n (zaw marks n) few marks.length) fun d=>if wt d=v then (1:Int) else 0:=by
    rw [←zgW G W.fewm W.few1 n v,←ycT perm,ye3,←yb6,←yb6,←yd7]
    unfold cN
    rw [zag fun c _=>(yb6 _ _ _).symm,ydf]
    refine zag fun d hd=>?_
    have h1:=eC d hd
    by_cases w:wt d=v
    · rw [if_pos w]
      rw [yb6,zag (h:=fun c:List Nat=>if dN p m t n (fun i=>c.getD i 0) d=0 then (1:Int) else 0) fun c _=>?_,h1]
      · by_cases z:d∈lwL p m t root n (zaw marks n) few marks.length
        · rw [if_pos z,if_pos (decide_eq_true z),Int.mul_one,Int.mul_one]
        · rw [if_neg z,if_neg (by rw [decide_eq_false z];decide),Int.mul_one,Int.mul_zero]
      · by_cases z:dN p m t n (fun i=>c.getD i 0) d=0
        · rw [if_pos z,if_pos ⟨w,z⟩]
        · rw [if_neg z,if_neg fun h=>z h.2]
    · rw [if_neg w,Int.mul_zero,zag (h:=fun _=>0) fun c _=>by rw [if_neg fun h=>w h.1,Int.mul_zero],yb2]
      split <;> simp
  rw [eA] at eB
  have e:=Int.add_left_cancel eB
  rw [Int.mul_assoc] at e
  exact Int.eq_of_mul_eq_mul_left (by omega) e
end
theorem zgb (l:List (List Nat)) (v:Nat):((l.countP fun r=>wt r==v:Nat):Int)=sL l fun d=>if wt d=v then (1:Int) else 0:=by
  induction l with
  | nil=>rfl
  | cons r l ih =>
    rw [yao,List.countP_cons,Int.natCast_add,ih]
    by_cases c:wt r=v
    · rw [if_pos (by simpa using c),if_pos c];omega
    · rw [if_neg (by simpa using c),if_neg c];omega
theorem zfs {n:Nat} {l:List (List Nat)} (g:Nat→Int) (h:∀r∈l,wt r≤n):sL (List.range (n+1)) (fun w=>(((hst n l).getD w 0:Nat):Int)*g w)=sL l fun r=>g (wt r):=by
  have e:∀w∈List.range (n+1),(((hst n l).getD w 0:Nat):Int)*g w=sL l fun r=>if wt r=w then g w else 0:=fun w hw=>by
    rw [zeJ (by have:=List.mem_range.mp hw;omega),zgb,Int.mul_comm,←yb6]
    exact zag fun r _=>by split <;> simp
  rw [zag e,ydf]
  refine zag fun r hr=>?_
  rw [ybH _ List.nodup_range (List.mem_range.mpr (show wt r<n+1 by have:=h r hr;omega)),if_pos rfl,zag (h:=fun _=>0) fun x _=>?_,yb2,Int.add_zero]
  by_cases c:x=wt r
  · rw [if_pos c]
  · rw [if_neg c,if_neg fun e=>c e.symm]
end My
end
section
-- text: Q58a
set_option Elab.async false
set_option linter.all false
set_option maxRecDepth 100000
set_option maxHeartbeats 4000000
namespace My
open PySem L2 Dg
theorem yby {xs:List Int} {k:Nat} (h:k<xs.length):(xs.map V.int)[k]?=some (V.int (xs.getD k 0)):=by
  rw [List.getElem?_map,List.getElem?_eq_getElem h];simp [List.getD,h]
theorem zdy {n:Nat} {f:Nat→Int} {i:Nat} (h:i<n):((List.range n).map f).getD i 0=f i:=by
  rw [List.getD_eq_getElem?_getD,List.getElem?_map,List.getElem?_range h];rfl
noncomputable def shL (q:Int) (v s:Nat):List Int:=(List.range (s+1)).map fun i=>kS q v s i
theorem yco (q:Int) (v s:Nat):(shL q v s).length=s+1:=by simp [shL]
theorem ygq {q:Int} {v s k:Nat} (hk:k<s+2):(shL q v s++[0]).getD k 0+(if s<v then -1 else q-1)*(0::shL q v s).getD k 0=kS q v (s+1) k:=by
  have e1:(shL q v s++[0]).getD k 0=kS q v s k:=by
    rcases Nat.lt_or_ge k (s+1) with h|h
    · rw [←zdy (f:=fun i=>kS q v s i) h]
      show (shL q v s++[0]).getD k 0=(shL q v s).getD k 0
      rw [List.getD_eq_getElem?_getD,List.getD_eq_getElem?_getD,List.getElem?_append_left (by rw [yco];exact h)]
    · have e:k=s+1:=by omega
      subst e
      have z:kS q v s (s+1)=0:=zdQ s (s+1) (by omega)
      rw [z,List.getD_eq_getElem?_getD,List.getElem?_append_right (by rw [yco];omega),yco,Nat.sub_self];rfl
  rw [e1,ybK]
  show _=kS q v s k+_*sh (kS q v s) k
  congr 2
  cases k with
  | zero=>rfl
  | succ k =>
    rw [List.getD_cons_succ]
    exact zdy (by omega)
theorem ifTE {c:Bool} {ta tb:TE} {σ:St} {H:Hp} {Q:V→Hp→Prop} (x:V) (ha:c=true→∀Q:V→Hp→Prop,Q x H→ta σ H Q) (hb:¬ c=true→∀Q:V→Hp→Prop,Q x H→tb σ H Q) (h:Q x H):if c=true then ta σ H Q else tb σ H Q:=by
  by_cases d:c=true
  · rw [if_pos d];exact ha d Q h
  · rw [if_neg d];exact hb d Q h
section
variable {P:Program} {w:World} {K:PySem.W.Frag} {mg:Str→Option Value} {base:Heap} {f:Addr} {fd:FuncData}
inductive zcz (vs:List V) (H:Hp) (Q:VK) (E:XK):Prop
  | mk (q n v:Nat) (c1:vs=[Vn q,Vn n,Vn v]) (c0:q≤64) (c2:n≤100) (c3:∀r H',Same H H'→H' r=some (.lst ((shL (q:Int) v n).map V.int))→Q (.ref r) H'):zcz vs H Q E
theorem zbk:yai ["q","n","v","row","step","factor"] ["q","n","v"] (yac zcb):=⟨rfl,rfl,rfl,by decide +kernel,rfl,by decide +kernel,by decide +kernel⟩
theorem ye7 (B:Bl mg) (F:Fun K "shares" "shares" zcb f fd):FnOk P w K mg base CX0 1 f fd ["q","n","v"] zcz:=by
  refine F.ok zbk (fun vs H Q E h=>?_) (fun cdv A outer s H vs Q E hr h=>?_)
  · obtain ⟨q,n,v,rfl,_⟩:=h;rfl
  obtain ⟨q,n,v,rfl,hq,hn,ret⟩:=h
  refine ⟨_,((3<|>zbk.nd<|>(@yam _ _ _ _ (yab>=>zab)))<=<((↑((pv 1)>=>zab))<&>((4&&&zbk.nd),((5<|>zbk.nd<|>(@zfC _ _ _ _ _ _ _ _ (ygC∪(pv 4)∪(pv 2)) (@zeq _ _ _ _ _ _ ycP yab) (zaH|||(pv 0)|||yab)))<=<(~~~(@za7 _ 3 _ _ _ _ _ _ _ _ _ ["a","b"] ["factor"] [5] _ _ _ _ zbk.nd rfl (Or.inl rfl) (id (α:=CSc ["q","n","v","row","step","factor"] (yac zcb) ["a","b"] ["factor"] [5] _) ⟨by rfl,by decide +kernel,by decide +kernel,by decide +kernel,by decide +kernel,by rfl,by decide +kernel⟩) rfl (@zdn _ _ _ _ _ _ _ _ _ rfl (B "zip" (by decide)) ((ybU|||(pv 3)|||(@yam _ _ _ _ (yab>=>zab)))>=>(ybU|||(@yam _ _ _ _ (yab>=>zab))|||(pv 3))>=>zab) (by rfl) (by rfl)) (fun cl C fp s H=>(@zbY _ _ _ _ 2 _ K rfl rfl ((0⊇["a","b","factor"])∩((1⊇["a","b","factor"])∩yax)) (by rfl) (by rfl))) (fun _ _ _ _ _=>yaw) (fun _ _ _ _ _=>(zan|||(pv 0)|||(yaH|||(pv 2)|||(pv 1)))) (by rfl) (by intro _;rfl) (by first|exact .inl rfl|exact .inr rfl|assumption))))))<=<(~~~((pv 3)⁻¹))),?_⟩
  refine ⟨szl 1,fun r0 hr0=>?_⟩
  have s1:=yaa hr0 (.lst [.int 1])
  have e1:upd H r0 (.lst [.int 1]) r0=some (.lst ((shL (q:Int) v 0).map V.int)):=zaa
  dsimp only [yan]
  generalize upd H r0 (.lst [.int 1])=H1 at s1 e1 ⊢
  refine ⟨_,rfl,(n:Int),rfl,by omega,by omega,?_⟩
  refine yaz (lo:=0) (n:=(n:Int).toNat) (fun i σ H'=>Same H H'∧∃(rr:Addr) (s4 s5:Option V),H' rr=some (.lst ((shL (q:Int) v i).map V.int))∧σ=[some (Vn q),some (Vn n),some (Vn v),some (.ref rr),s4,s5]) ⟨s1,r0,none,none,e1,rfl⟩ ?_ ?_
  · rintro i σ H2 hi ⟨s2,rr,s4,s5,e2,rfl⟩
    rw [Int.toNat_natCast] at hi
    refine ⟨_,rfl,_,rfl,_,_,rfl,rfl,_,rfl,?_⟩
    refine ifTE (V.int (if i<v then -1 else (q:Int)-1)) (fun c Q h=>?_) (fun c Q h=>?_) ?_
    · rw [if_pos (by have:=of_decide_eq_true c;omega)] at h
      exact ⟨_,rfl,h⟩
    · rw [if_neg (by have:=of_decide_eq_false (Bool.eq_false_iff.mpr c);omega)] at h
      exact ⟨_,rfl,_,_,rfl,rfl,h⟩
    have fb : -(2^64)<(if i<v then -1 else (q:Int)-1)∧(if i<v then -1 else (q:Int)-1)<2^64:=by split <;> omega
    obtain ⟨fc,efc⟩:∃fc:Int,fc=if i<v then -1 else (q:Int)-1:=⟨_,rfl⟩
    rw [←efc] at fb ⊢
    dsimp only [yan]
    have lr:(shL (q:Int) v i).length=i+1:=yco _ _ _
    refine ⟨_,rfl,szl 1,fun z1 hz1=>?_⟩
    have t1:=yaa hz1 (.lst [.int 0])
    refine ⟨rr,z1,_,_,rfl,rfl,t1 _ _ e2,zaa,by rw [List.length_map,lr];exact szl _ (by simp;omega),fun l1 hl1=>?_⟩
    have t2:=yaa hl1 (.lst ((shL (q:Int) v i).map V.int++[.int 0]))
    have f1:upd (upd H2 z1 (.lst [.int 0])) l1 (.lst ((shL (q:Int) v i).map V.int++[.int 0])) l1=some (.lst ((shL (q:Int) v i++[0]).map V.int)):=by rw [zaa,List.map_append];rfl
    have e3:=t2 _ _ (t1 _ _ e2)
    have s3:=s2.trans (t1.trans t2)
    generalize upd (upd H2 z1 (.lst [.int 0])) l1 (.lst ((shL (q:Int) v i).map V.int++[.int 0]))=H3 at f1 e3 s3 ⊢
    refine ⟨szl 1,fun z2 hz2=>?_⟩
    have t3:=yaa hz2 (.lst [.int 0])
    refine ⟨_,rfl,z2,rr,_,_,rfl,rfl,zaa,t3 _ _ e3,by rw [List.length_map,lr];exact szl _ (by simp;omega),fun l2 hl2=>?_⟩
    have t4:=yaa hl2 (.lst ([.int 0]++(shL (q:Int) v i).map V.int))
    have f2:upd (upd H3 z2 (.lst [.int 0])) l2 (.lst ([.int 0]++(shL (q:Int) v i).map V.int)) l2=some (.lst ((0::shL (q:Int) v i).map V.int)):=zaa
    have f1':=t4 _ _ (t3 _ _ f1)
    have s4':=s3.trans (t3.trans t4)
    generalize upd (upd H3 z2 (.lst [.int 0])) l2 (.lst ([.int 0]++(shL (q:Int) v i).map V.int))=H4 at f1' f2 s4' ⊢
    refine ⟨false,false,l1,l2,rfl,⟨_,SqL.of f1'⟩,⟨_,SqL.of f2⟩,?_⟩
    have la:(shL (q:Int) v i++[0]).length=i+2:=by rw [List.length_append,lr];rfl
    have lb:(0::shL (q:Int) v i).length=i+2:=by rw [List.length_cons,lr]
    refine yak (zbU (b1:=false) (b2:=false) (xs:=(shL (q:Int) v i++[0]).map V.int) (ys:=(0::shL (q:Int) v i).map V.int)) (fun k acc H'=>Same H4 H'∧acc=((List.range k).map fun j=>kS (q:Int) v (i+1) j).map V.int) ⟨Same.refl _,rfl⟩ (fun i acc H' _ h=>⟨SqL.of (h.1 _ _ f1'),SqL.of (h.1 _ _ f2)⟩) ?_ ?_ ?_
    · rintro k acc H' hk' ⟨_,rfl⟩
      rw [List.length_map,List.length_map,la,lb] at hk'
      rw [List.length_map,List.length_map,List.length_range]
      exact zaf (by omega)
    · rintro k acc z H5 H6 hk' ⟨s6,rfl⟩ ⟨T',u,x,rfl,eu,ev,hT',rfl⟩
      rw [List.length_map,List.length_map,la,lb] at hk'
      rw [yby (by omega)] at eu ev
      cases eu;cases ev
      have s7:=s6.trans (yaa hT' (.tup [V.int ((shL (q:Int) v i++[0]).getD k 0),V.int ((0::shL (q:Int) v i).getD k 0)]))
      refine ⟨T',_,rfl,SqT.of zaa,rfl,_,_,rfl,_,_,rfl,rfl,?_⟩
      refine ⟨_,rfl,_,rfl,_,rfl,_,_,rfl,rfl,.inl fb,_,_,rfl,rfl,s7,?_⟩
      have:=ygq (q:=(q:Int)) (v:=v) (s:=i) (k:=k) (by omega)
      rw [efc,this,List.range_succ,List.map_append,List.map_append];rfl
    · rw [List.length_map,List.length_map,la,lb,Nat.min_self]
      rintro acc H5 ⟨s6,rfl⟩ l3 hl3
      exact ⟨s4'.trans (s6.trans (yaa hl3 _)),l3,_,_,zaa,rfl⟩
  · rw [Int.toNat_natCast]
    rintro σ H2 ⟨s2,rr,s4,s5,e2,rfl⟩
    exact ⟨_,rfl,ret rr _ s2 e2⟩
end
end My
end
section
-- text: Q58b
set_option Elab.async false
set_option linter.all false
set_option maxRecDepth 100000
set_option maxHeartbeats 4000000
set_option exponentiation.threshold 1100
namespace My
open PySem L2 Dg
theorem zg0 {q:Nat} (hq:2≤q) (w:Nat):∀n v,(kS (q:Int) w n v).natAbs≤q^n
  | 0,v=>by
    show (if v=0 then (1:Int) else 0).natAbs≤q^0
    rw [Nat.pow_zero]
    by_cases c:v=0
    · rw [if_pos c];exact Nat.le_refl _
    · rw [if_neg c];exact Nat.zero_le _
  | n+1,v=>by
    have ih:=zg0 hq w n
    rw [ybK]
    have h1:=ih v
    have h2:(sh (kS (q:Int) w n) v).natAbs≤q^n:=by
      cases v with
      | zero=>exact Nat.zero_le _
      | succ v=>exact ih v
    show (kS (q:Int) w n v+(if n<w then -1 else (q:Int)-1)*sh (kS (q:Int) w n) v).natAbs≤q^(n+1)
    refine Nat.le_trans (Int.natAbs_add_le _ _) ?_
    rw [Int.natAbs_mul,Nat.pow_succ]
    have h3:(if n<w then -1 else (q:Int)-1).natAbs≤q-1:=by split <;> omega
    have h4:=Nat.mul_le_mul h3 h2
    have h5:q^n*q=q^n+(q-1)*q^n:=by
      obtain ⟨k,rfl⟩:∃k,q=k+1:=⟨q-1,by omega⟩
      rw [Nat.mul_add,Nat.mul_one,Nat.add_sub_cancel,Nat.mul_comm k];omega
    omega
theorem yeX {x:Int} (h:x.natAbs<2^400):Builtin.Int.intBits x≤2^20:=by
  unfold Builtin.Int.intBits
  split
  · exact Nat.zero_le _
  · rename_i h0
    have h1:x.natAbs.log2<400:=by
      rcases Nat.eq_zero_or_pos x.natAbs with h2|h2
      · rw [h2];decide
      · exact (Nat.log2_lt (Nat.ne_of_gt h2)).mpr h
    omega
theorem yfl {q n:Nat} (h1:q≤64) (h2:n≤63):q^n<2^400 :=
  Nat.lt_of_le_of_lt (Nat.le_trans (Nat.pow_le_pow_left h1 n) (Nat.pow_le_pow_right (by decide) h2)) (by decide)
noncomputable def tL (q:Int) (ns:List Nat) (n k:Nat):List Int:=(List.range (n+1)).map fun i=>sL (List.range k) fun v=>((ns.getD v 0:Nat):Int)*kS q v n i
theorem yeg (q:Int) (ns:List Nat) (n k:Nat):(tL q ns n k).length=n+1:=by simp [tL]
theorem zg8 {q:Int} {ns:List Nat} {n k i:Nat} (h:i<n+1):(tL q ns n k).getD i 0=sL (List.range k) fun v=>((ns.getD v 0:Nat):Int)*kS q v n i:=zdy h
theorem zfa (q:Int) (ns:List Nat) (n:Nat):(List.replicate (n+1) 0).map Vn=(tL q ns n 0).map V.int:=by
  unfold tL
  rw [List.map_map,List.map_replicate]
  refine List.ext_getElem (by simp) fun i h1 h2=>?_
  simp;rfl
theorem yeR {q:Int} {ns:List Nat} {n k i:Nat} (h:i<n+1):(tL q ns n k).getD i 0+((ns.getD k 0:Nat):Int)*(shL q k n).getD i 0=sL (List.range (k+1)) fun v=>((ns.getD v 0:Nat):Int)*kS q v n i:=by
  rw [zg8 h,List.range_succ,ygf,yao,zcI,Int.add_zero,show (shL q k n).getD i 0=kS q k n i from zdy h]
noncomputable def fcL (q:Int) (ns:List Nat) (n:Nat):List Int:=(tL q ns n (n+1)).map fun x=>x/((ns.sum:Nat):Int)
theorem zbd (ns:List Nat):(ns.map fun n:Nat=>(n:Int)).sum=((ns.sum:Nat):Int):=by
  induction ns with
  | nil=>rfl
  | cons n ns ih=>rw [List.map_cons,List.sum_cons,List.sum_cons,ih];omega
theorem zfy {ns:List Nat} {k:Nat} (h:k<ns.length):ns.getD k 0≤ns.sum:=by
  induction ns generalizing k with
  | nil=>cases h
  | cons n ns ih =>
    rw [List.sum_cons]
    cases k with
    | zero=>show n≤_;omega
    | succ k =>
      rw [List.getD_cons_succ]
      have:=ih (k:=k) (by simpa using h)
      omega
section
variable {P:Program} {w:World} {K:PySem.W.Frag} {mg:Str→Option Value} {base:Heap} {f:Addr} {fd:FuncData}
inductive zb1 (K:PySem.W.Frag) (vs:List V) (H:Hp) (Q:VK) (E:XK):Prop
  | mk (q n:Nat) (a:Addr) (ns:List Nat) (c1:vs=[Vn q,.ref a]) (c2:SqT K H a (ns.map Vn)) (c3:ns.length=n+1) (c4:n≤63) (c5:2≤q) (c6:q≤64) (c7:0<ns.sum) (c8:ns.sum<2^400) (c9:∀r H',Same H H'→H' r=some (.tup ((fcL (q:Int) ns n).map V.int))→Q (.ref r) H'):zb1 K vs H Q E
theorem zaq:yai ["q","counts","n","totals","v","many"] ["q","counts"] (yac yay):=⟨rfl,rfl,rfl,by decide +kernel,rfl,by decide +kernel,by decide +kernel⟩
theorem zez (B:Bl mg) (h_shares:Has P w K mg base 1 "shares" ["q","n","v"] zcz) (F:Fun K "facing_counts" "facing_counts" yay f fd):FnOk P w K mg base CX0 2 f fd ["q","counts"] (zb1 K):=by
  refine F.ok zaq (fun vs H Q E h=>?_) (fun cdv A outer s H vs Q E hr h=>?_)
  · obtain ⟨q,n,a,ns,rfl,_⟩:=h;rfl
  obtain ⟨q,n,a,ns,rfl,hns,hl,hn,hq2,hq,hs0,hs,ret⟩:=h
  refine ⟨_,((2<|>zaq.nd<|>(zaH|||(yal>>>("len",PySem.boot_len,((pv 1)>=>zab)))|||yab))<=<(3<|>zaq.nd<|>(zcm|||(@yam _ _ _ _ (yab>=>zab))|||(zan|||(pv 2)|||yab)))<=<((@zb3 _ _ _ _ _ _ _ _ rfl (B "enumerate" (by decide)) ((pv 1)>=>zab) (by rfl))<&>((@zck _ _ _ _ _ _ rfl ((4&&&zaq.nd)∩((5&&&zaq.nd)∩yax)) (by rfl) (by rfl)),(~~~(@za7 _ 3 _ _ _ _ _ _ _ _ _ ["total","share"] ["many"] [5] _ _ _ _ zaq.nd rfl (Or.inl rfl) (id (α:=CSc ["q","counts","n","totals","v","many"] (yac yay) ["total","share"] ["many"] [5] _) ⟨by rfl,by decide +kernel,by decide +kernel,by decide +kernel,by decide +kernel,by rfl,by decide +kernel⟩) rfl (@zdn _ _ _ _ _ _ _ _ _ rfl (B "zip" (by decide)) ((pv 3)>=>(h_shares<$>((pv 0)>=>(pv 2)>=>(pv 4)>=>zab))>=>zab) (by rfl) (by rfl)) (fun cl C fp s H=>(@zbY _ _ _ _ 2 _ K rfl rfl ((0⊇["total","share","many"])∩((1⊇["total","share","many"])∩yax)) (by rfl) (by rfl))) (fun _ _ _ _ _=>yaw) (fun _ _ _ _ _=>(zan|||(pv 0)|||(zfr|||(pv 2)|||(pv 1)))) (by rfl) (by intro _;rfl) (by first|exact .inl rfl|exact .inr rfl|assumption)))))<=<(~~~((zav<*("tuple",yau,((["total"]⊆(["counts"],[1],["q","counts","n","totals","v","many"],yay,(@zaI _ _ _ _ (pv 3)),(0⊇["total","counts"]),yaw,(zdD|||(pv 0)|||((zcK (K:=K) rfl rfl)>>>("sum",PyProof.Rows.boot_sum,((pv 1)>=>zab))))))>=>zab)))⁻¹))),?_⟩
  refine ⟨_,rfl,a,_,rfl,.inr hns,_,_,rfl,rfl,?_⟩
  rw [List.length_map,hl,show (((n+1:Nat):Int))-1=(n:Int) by omega]
  dsimp only [yan]
  refine ⟨szl 1,fun z0 hz0=>?_⟩
  have s0:=yaa hz0 (.lst [V.int 0])
  refine ⟨_,rfl,_,_,rfl,rfl,z0,_,_,rfl,rfl,zaa,by omega,by omega,by rw [show ((n:Int)+1).toNat=n+1 by omega];exact szl _ (by simp;omega),fun tl htl=>?_⟩
  rw [show ((n:Int)+1).toNat=n+1 by omega,zaV,zfa (q:Int) ns]
  have s1:=s0.trans (yaa htl (.lst ((tL (q:Int) ns n 0).map V.int)))
  have e1:upd (upd H z0 (.lst [V.int 0])) tl (.lst ((tL (q:Int) ns n 0).map V.int)) tl=some (.lst ((tL (q:Int) ns n 0).map V.int)):=zaa
  dsimp only [yan]
  generalize upd (upd H z0 (.lst [V.int 0])) tl (.lst ((tL (q:Int) ns n 0).map V.int))=H1 at s1 e1 ⊢
  refine ⟨_,rfl,true,a,rfl,⟨_,Same.tup s1 hns⟩,?_⟩
  refine ybm (ya9 (b:=true) (xs:=ns.map Vn)) (fun k σ H'=>Same H H'∧∃(tt:Addr) (s4 s5:Option V),H' tt=some (.lst ((tL (q:Int) ns n k).map V.int))∧σ=[some (Vn q),some (.ref a),some (Vn n),some (.ref tt),s4,s5]) ⟨s1,tl,none,none,e1,rfl⟩ (fun k σ H' _ h=>Same.tup h.1 hns) ?_ ?_
  · rintro k z σ H2 H3 hk ⟨s2,tt,s4,s5,e2,rfl⟩ ⟨Tt,u,rfl,eu,hT,rfl⟩
    rw [List.length_map,hl] at hk
    rw [yaQ (by omega)] at eu
    cases eu
    have sT:=yaa hT (.tup [.int (k:Int),Vn (ns.getD k 0)])
    have s3:=s2.trans sT
    have e3:=sT _ _ e2
    refine ⟨Tt,_,rfl,SqT.of zaa,rfl,_,_,rfl,_,_,rfl,rfl,?_⟩
    dsimp only [yan]
    generalize upd H2 Tt (.tup [.int (k:Int),Vn (ns.getD k 0)])=H3 at s3 e3 ⊢
    refine ⟨_,rfl,_,rfl,_,rfl,_,rfl,q,n,k,rfl,hq,by omega,fun sr H4 s4' e4=>?_⟩
    have e3':=s4' _ _ e3
    have s5':=s3.trans s4'
    refine ⟨false,false,tt,sr,rfl,⟨_,SqL.of e3'⟩,⟨_,SqL.of e4⟩,?_⟩
    have lt1:=yeg (q:Int) ns n k
    have lt2:(shL (q:Int) k n).length=n+1:=yco _ _ _
    refine yak (zbU (b1:=false) (b2:=false) (xs:=(tL (q:Int) ns n k).map V.int) (ys:=(shL (q:Int) k n).map V.int)) (fun j acc H'=>Same H4 H'∧acc=((List.range j).map fun i=>sL (List.range (k+1)) fun v=>((ns.getD v 0:Nat):Int)*kS (q:Int) v n i).map V.int) ⟨Same.refl _,rfl⟩ (fun i acc H' _ h=>⟨SqL.of (h.1 _ _ e3'),SqL.of (h.1 _ _ e4)⟩) ?_ ?_ ?_
    · rintro j acc H' hj ⟨_,rfl⟩
      rw [List.length_map,List.length_map,lt1,lt2] at hj
      rw [List.length_map,List.length_map,List.length_range]
      exact zaf (by omega)
    · rintro j acc z H5 H6 hj ⟨s6,rfl⟩ ⟨T',u,x,rfl,eu,ev,hT',rfl⟩
      rw [List.length_map,List.length_map,lt1,lt2,Nat.min_self] at hj
      rw [yby (by omega)] at eu ev
      cases eu;cases ev
      have s7:=s6.trans (yaa hT' (.tup [V.int ((tL (q:Int) ns n k).getD j 0),V.int ((shL (q:Int) k n).getD j 0)]))
      refine ⟨T',_,rfl,SqT.of zaa,rfl,_,_,rfl,_,_,rfl,rfl,?_⟩
      refine ⟨_,rfl,_,rfl,_,rfl,_,_,rfl,rfl,IntMulOk.of_bits (yeX ?_) (yeX ?_),_,_,rfl,rfl,s7,?_⟩
      · rw [Int.natAbs_natCast]
        exact Nat.lt_of_le_of_lt (zfy (by omega)) hs
      · rw [show (shL (q:Int) k n).getD j 0=kS (q:Int) k n j from zdy hj]
        exact Nat.lt_of_le_of_lt (zg0 hq2 k n j) (yfl hq hn)
      · rw [yeR hj,List.range_succ (n:=j),List.map_append,List.map_append];rfl
    · rw [List.length_map,List.length_map,lt1,lt2,Nat.min_self]
      rintro acc H5 ⟨s6,rfl⟩ l3 hl3
      exact ⟨s5'.trans (s6.trans (yaa hl3 _)),l3,_,_,zaa,rfl⟩
  · rw [List.length_map,hl]
    rintro σ H2 ⟨s2,tt,s4,s5,e2,rfl⟩
    have lt1:=yeg (q:Int) ns n (n+1)
    refine ⟨_,rfl,tt,rfl,⟨_,SqL.of e2⟩,?_⟩
    refine yak (yaD (xs:=(tL (q:Int) ns n (n+1)).map V.int)) (fun j acc H'=>H'=H2∧acc=(((tL (q:Int) ns n (n+1)).take j).map fun x=>x/((ns.sum:Nat):Int)).map V.int) ⟨rfl,rfl⟩ (fun i acc H' _ h=>by rw [h.1];exact SqL.of e2) ?_ ?_ ?_
    · rintro j acc H' hj ⟨_,rfl⟩
      rw [List.length_map,lt1] at hj
      rw [List.length_map,List.length_map,List.length_take]
      exact zaf (by omega)
    · rintro j acc z H5 H6 hj ⟨rfl,rfl⟩ ⟨rfl,ez⟩
      rw [List.length_map,lt1] at hj
      rw [yby (by omega)] at ez
      cases ez
      refine ⟨_,rfl,_,rfl,a,ns.map fun n:Nat=>(n:Int),rfl,?_,_,_,rfl,rfl,⟨?_,?_⟩,rfl,?_⟩
      · rw [List.map_map];exact Same.tup s2 hns
      · rw [zbd];omega
      · rw [zbd]
        have h4:ns.sum<2^1000:=Nat.lt_trans hs (Nat.pow_lt_pow_right (by decide) (by decide))
        exact_mod_cast h4
      · rw [zbd,zbg (d:=0) (by omega:j<(tL (q:Int) ns n (n+1)).length),List.map_append,List.map_append];rfl
    · rw [List.length_map,lt1]
      rintro acc H5 ⟨rfl,ea⟩ D hD
      rw [List.take_of_length_le (by omega)] at ea
      subst ea
      refine ⟨D,_,rfl,.inl ⟨SqL.of zaa,fun r hr=>?_⟩⟩
      exact ret r _ (s2.trans ((yaa hD _).trans (yaa hr _))) zaa
end
end My
end
section
-- text: Q58c
set_option Elab.async false
set_option linter.all false
set_option maxRecDepth 100000
set_option maxHeartbeats 4000000
set_option exponentiation.threshold 1100
namespace My
open PySem L2 Dg
section
variable {P:Program} {w:World} {K:PySem.W.Frag} {mg:Str→Option Value} {base:Heap} {f:Addr} {fd:FuncData}
theorem Tups.get {H:Hp} {ds:List Addr} {ls:List (List Nat)} {i:Nat} (h:Tups H ds ls) (hi:i<ls.length):∃d,ds[i]?=some d∧H d=some (.tup ((ls.getD i []).map Vn)):=by
  have hd:i<ds.length:=by rw [h.1];exact hi
  obtain ⟨rs,e,hr⟩:=h.2 i ds[i] (List.getElem?_eq_getElem hd)
  refine ⟨ds[i],List.getElem?_eq_getElem hd,?_⟩
  rw [List.getD_eq_getElem?_getD,e]
  exact hr
inductive ycj (vs:List V) (H:Hp) (Q:VK) (E:XK):Prop
  | mk (tb fa pa la wh mk:Addr) (p m t b few root n:Nat) (marks:List Nat) (c1:vs=[.ref tb,.ref wh]) (c2:Tab H tb fa pa la p m t b) (c3:WhAt H wh fa mk few root marks) (c4:Whl p m t few root n marks) (c5:Q (Vn ((p^few)^(n-marks.length))) H):ycj vs H Q E
theorem zaY:yai ["_law_table_here","_law_wheel_here","_law_left"] ["_law_table_here","_law_wheel_here"] (yac yaI):=⟨rfl,rfl,rfl,by decide +kernel,rfl,by decide +kernel,by decide +kernel⟩
theorem zfv (B:Bl mg) (h__law_round:Has P w K mg base 2 "_law_round" ["_law_table_here","_law_one"] zaP) (h__law_raised:Has P w K mg base 1 "_law_raised" ["_law_one","_law_many"] yah) (F:Fun K "_law_many_words" "_law_many_words" yaI f fd):FnOk P w K mg base CX0 3 f fd ["_law_table_here","_law_wheel_here"] ycj:=by
  refine F.ok zaY (fun vs H Q E h=>?_) (fun cdv A outer s H vs Q E hr h=>?_)
  · obtain ⟨tb,fa,pa,la,wh,mk,p,m,t,b,few,root,n,marks,rfl,_⟩:=h;rfl
  obtain ⟨tb,fa,pa,la,wh,mk,p,m,t,b,few,root,n,marks,rfl,T,hW,W,q⟩:=h
  have G:=T.good
  have hp:=G.hp
  have hm:=G.hm
  have hQ:=G.hq
  have hnq:=W.nq
  have hml:=zdZ W.asc W.lt
  have hp2:=p_le hp hm hQ
  have hm6:=m_le hp hQ
  have hf1:=W.few1
  have hfm:few≤m:=Nat.le_of_dvd (by omega) (Nat.dvd_of_mod_eq_zero W.fewm)
  have hqq:p^few≤64:=Nat.le_trans (Nat.pow_le_pow_right (by omega) hfm) hQ
  refine ⟨_,((2<|>zaY.nd<|>(zaH|||(h__law_round<$>((pv 0)>=>(yas<<<(pv 1)<<<yab)>=>zab))|||(yal>>>("len",PySem.boot_len,((yas<<<(pv 1)<<<yab)>=>zab)))))<=<(~~~((h__law_raised<$>((h__law_raised<$>(((pv 0)⊃zax)>=>(yas<<<(pv 1)<<<yab)>=>zab))>=>(pv 2)>=>zab))⁻¹))),?_⟩
  refine ⟨_,rfl,_,rfl,wh,_,_,Vn root,rfl,rfl,SqT.of hW.w,rfl,tb,fa,pa,la,p,m,t,b,root,rfl,T,W.r0,W.rq,fun n' o' _=>?_⟩
  cases o'.uniq W.ord
  refine ⟨_,rfl,wh,_,_,.ref mk,rfl,rfl,SqT.of hW.w,rfl,mk,_,rfl,.inr (SqT.of hW.k),_,_,rfl,rfl,?_⟩
  rw [List.length_map,show (n:Int)-(marks.length:Int)=((n-marks.length:Nat):Int) by omega]
  refine ⟨_,rfl,tb,_,rfl,T.get zdU,_,rfl,wh,_,_,Vn few,rfl,rfl,SqT.of hW.w,rfl,p,few,rfl,hp2,by omega,?_⟩
  refine ⟨_,rfl,p^few,n-marks.length,rfl,hqq,by omega,?_⟩
  exact q
inductive ybW (vs:List V) (H:Hp) (Q:VK) (E:XK):Prop
  | mk (tb fa pa la wh mk:Addr) (p m t b few root n:Nat) (marks:List Nat) (c1:vs=[.ref tb,.ref wh]) (c2:Tab H tb fa pa la p m t b) (c3:WhAt H wh fa mk few root marks) (c4:Whl p m t few root n marks) (c5:(p^few)^(n-marks.length)≤4096) (c6:∀r H',Same H H'→H' r=some (.tup ((hst n (lwL p m t root n marks few (n-marks.length))).map Vn))→Q (.ref r) H'):ybW vs H Q E
theorem zaL:yai ["_law_table_here","_law_wheel_here","_law_found","_law_word","_law_many"] ["_law_table_here","_law_wheel_here"] (yac yaS):=⟨rfl,rfl,rfl,by decide +kernel,rfl,by decide +kernel,by decide +kernel⟩
theorem yep (B:Bl mg) (h__law_round:Has P w K mg base 2 "_law_round" ["_law_table_here","_law_one"] zaP) (h__law_words:Has P w K mg base 4 "_law_words" ["_law_table_here","_law_wheel_here"] zcu) (F:Fun K "_law_counts" "_law_counts" yaS f fd):FnOk P w K mg base CX0 5 f fd ["_law_table_here","_law_wheel_here"] ybW:=by
  refine F.ok zaL (fun vs H Q E h=>?_) (fun cdv A outer s H5 vs Q E hr h=>?_)
  · obtain ⟨tb,fa,pa,la,wh,mk,p,m,t,b,few,root,n,marks,rfl,_⟩:=h;rfl
  obtain ⟨tb,fa,pa,la,wh,mk,p,m,t,b,few,root,n,marks,rfl,T,hW,W,hle2,q⟩:=h
  have G:=T.good
  have hp:=G.hp
  have hm:=G.hm
  have hQ:=G.hq
  have hnq:=W.nq
  have hn0:=W.ord.pos
  have hml:=zdZ W.asc W.lt
  have hm6:=m_le hp hQ
  have hfm:few≤m:=Nat.le_of_dvd (by omega) (Nat.dvd_of_mod_eq_zero W.fewm)
  refine ⟨_,((2<|>zaL.nd<|>(zcm|||(@yam _ _ _ _ (yab>=>zab))|||(zan|||(h__law_round<$>((pv 0)>=>(yas<<<(pv 1)<<<yab)>=>zab))|||yab)))<=<((@zaI _ _ _ _ (h__law_words<$>((pv 0)>=>(pv 1)>=>zab)))<&>((3&&&zaL.nd),((4<|>zaL.nd<|>(yal>>>("len",PySem.boot_len,((["_law_one"]⊆([],[],["_law_table_here","_law_wheel_here","_law_found","_law_word","_law_many"],yaS,(@zeN _ _ _ _ (pv 3)),(0⊇["_law_one"]),(@zbE _ _ _ (yeG∪(pv 0)∪yab)),(pv 0)))>=>zab))))<=<(~~~(@zco _ _ _ _ _ _ (zan|||(zai<<<(pv 2)<<<(pv 4))|||yab) (@ycH _ _ _ _ _ _ _ (pv 2) (pv 4) zbD (by intro _;rfl)) (by rfl) (by rfl) (by rfl))))))<=<(~~~((zav<*("tuple",yau,((pv 2)>=>zab)))⁻¹))),?_⟩
  dsimp only [yan]
  refine ⟨szl 1,fun z0 hz0=>?_⟩
  have y0:=yaa hz0 (.lst [V.int 0])
  refine ⟨_,rfl,_,rfl,wh,_,_,Vn root,rfl,rfl,SqT.of (hW.same y0).w,rfl,tb,fa,pa,la,p,m,t,b,root,rfl,T.same y0,W.r0,W.rq,fun n' o' _=>?_⟩
  cases o'.uniq W.ord
  refine ⟨_,_,rfl,rfl,z0,_,_,rfl,rfl,zaa,by omega,by omega,by rw [show ((n:Int)+1).toNat=n+1 by omega];exact szl _ (by simp;omega),fun dl hdl=>?_⟩
  rw [show ((n:Int)+1).toNat=n+1 by omega,zaV,←yfg]
  have y1:=y0.trans (yaa hdl (.lst ((hst n []).map Vn)))
  have dlH:H5 dl=none:=y0.free hdl
  have edl:upd (upd H5 z0 (.lst [V.int 0])) dl (.lst ((hst n []).map Vn)) dl=some (.lst ((hst n []).map Vn)):=zaa
  dsimp only [yan]
  change tSeq _ _ _ _ (upd (upd H5 z0 (.lst [V.int 0])) dl (.lst ((hst n []).map Vn)))
  generalize upd (upd H5 z0 (.lst [V.int 0])) dl (.lst ((hst n []).map Vn))=H6 at y1 edl ⊢
  obtain ⟨lw,elw⟩:∃lw,lw=lwL p m t root n marks few (n-marks.length):=⟨_,rfl⟩
  refine ⟨_,rfl,_,rfl,tb,fa,pa,la,wh,mk,p,m,t,b,few,root,n,marks,rfl,T.same y1,hW.same y1,W.few1,by omega,W.fewm,W.r0,W.rq,W.ord,by omega,hml,hle2,fun r2 ds H7 y7 er2 hT=>?_⟩
  rw [←elw] at hT
  have hok:=yaW (root:=root) (marks:=marks) (few:=few) G (n-marks.length) (Nat.le_refl _)
  rw [←elw] at hok q
  refine ⟨r2,rfl,⟨_,SqL.of er2⟩,?_⟩
  have ndl:r2≠dl:=fun e=>by
    have h1:=y7 _ _ edl
    rw [←e,er2] at h1
    have h2:=congrArg (fun x=>match x with|some (HO.lst (V.int _::_))=>true|_=>false) h1
    rw [yfg] at h2
    cases ds with
    | nil=>exact absurd h2 (by simp [List.replicate_succ])
    | cons d ds=>exact absurd h2 (by simp [List.replicate_succ])
  refine ybm (yaD (xs:=ds.map V.ref)) (fun i σ H'=>Same H5 H'∧H' r2=some (.lst (ds.map V.ref))∧Tups H' ds lw∧H' dl=some (.lst ((hst n (lw.take i)).map Vn))∧∃v5 v9,σ=[some (.ref tb),some (.ref wh),some (.ref dl),v5,v9]) ⟨y1.trans y7,er2,hT,y7 _ _ edl,_,_,rfl⟩ (fun _ _ _ _ h=>SqL.of h.2.1) ?_ ?_
  · rintro i x σ H8 H8' hi ⟨y8,er8,hT8,e8,v5,v9,rfl⟩ ⟨rfl,ez⟩
    rw [List.length_map,hT.1] at hi
    obtain ⟨d,ed,hd⟩:=hT8.get hi
    rw [List.getElem?_map,ed] at ez
    cases ez
    obtain ⟨u,eu⟩:∃u,u=lw.getD i []:=⟨_,rfl⟩
    have hu:u∈lw:=by rw [eu];simp [List.getD,hi]
    have hul:=(hok u hu).1
    rw [←eu] at hd
    have hwu:wt u≤n:=by have:=ygK u;rw [hul] at this;exact this
    dsimp only [yan]
    refine ⟨_,rfl,d,rfl,⟨_,SqT.of hd⟩,?_⟩
    refine yak (yc9 (xs:=u.map Vn)) (fun k acc H'=>H'=H8'∧acc=((u.take k).filter (·≠0)).map Vn) ⟨rfl,rfl⟩ (fun i acc H' _ h=>h.1 ▸ SqT.of hd) ?_ ?_ ?_
    · rintro k acc H' hk ⟨_,rfl⟩
      have:=ygK (u.take k)
      rw [List.length_take] at this
      rw [List.length_map]
      exact zaf (by unfold wt at this;omega)
    · rintro k acc z H9 H10 hk ⟨rfl,rfl⟩ ⟨rfl,ez⟩
      obtain ⟨hk',rfl⟩:=zgn ez
      refine ⟨_,rfl,rfl,_,rfl,?_⟩
      have e:u.take (k+1)=u.take k++[u[k]]:=by rw [List.take_succ_eq_append_getElem hk']
      refine ite2 (fun c=>?_) (fun c=>?_)
      · refine ⟨_,rfl,rfl,?_⟩
        have c':u[k]≠0:=by simpa using c
        rw [e,List.filter_append,List.map_append]
        simp [c']
      · refine ⟨rfl,?_⟩
        have c':u[k]=0:=by simpa using c
        rw [e,List.filter_append]
        simp [c']
    rintro acc H9 ⟨rfl,rfl⟩ D hD
    have y9:=yaa hD (.lst (((u.take (u.map Vn).length).filter (·≠0)).map Vn))
    refine ⟨D,_,rfl,.inl (SqL.of zaa),?_⟩
    rw [List.length_map,List.length_map,List.take_length]
    rw [List.length_map,List.take_length] at y9
    dsimp only [yan]
    change tAsg _ _ _ _ (upd H9 D (.lst ((u.filter (·≠0)).map Vn)))
    generalize upd H9 D (.lst ((u.filter (·≠0)).map Vn))=H10 at y9 ⊢
    have e10:=y9 _ _ e8
    have wl2:wt u<(hst n (lw.take i)).length:=by rw [zbM];omega
    refine ⟨_,rfl,_,rfl,dl,_,_,_,rfl,rfl,SqL.of e10,zaW (yaQ (i:=wt u) wl2),_,_,rfl,rfl,?_⟩
    refine ⟨_,rfl,_,rfl,dl,_,_,wt u,rfl,rfl,e10,by rw [List.length_map];exact zgR wl2,?_⟩
    refine ⟨ydb (y8.trans y9) dlH,by rw [zad ndl];exact y9 _ _ er8,Tups.at (hT8.same y9) e10,?_,_,_,rfl⟩
    rw [zaa,zbg (d:=[]) hi,←eu,←yfQ hwu,List.map_set]
    rfl
  · rw [List.length_map,hT.1]
    rintro σ H8 ⟨y8,er8,hT8,e8,v5,v9,rfl⟩
    rw [List.take_length] at e8
    refine ⟨_,rfl,dl,_,rfl,.inl ⟨SqL.of e8,fun t1 ht1=>?_⟩⟩
    exact q t1 _ (y8.trans (yaa ht1 _)) zaa
noncomputable def rowQ (h:Nat) (q:Int) (v n k:Nat):List Int:=(List.range (n+1)).map fun i=>(h:Int)*kS q v k i
theorem zc3 (h:Nat) (q:Int) (v n k:Nat):(rowQ h q v n k).length=n+1:=by simp [rowQ]
theorem ze4 (h:Nat) (q:Int) (v n:Nat):V.int (h:Int)::(List.replicate n 0).map Vn=(rowQ h q v n 0).map V.int:=by
  unfold rowQ
  refine List.ext_getElem (by simp) fun i h1 h2=>?_
  simp only [List.getElem_map,List.getElem_range]
  show _=V.int ((h:Int)*(if i=0 then (1:Int) else 0))
  cases i with
  | zero=>rw [if_pos rfl,Int.mul_one];rfl
  | succ i=>rw [if_neg (by omega),Int.mul_zero];simp
theorem zft {h n v k i:Nat} {q:Int} (hi:i<n+1):(rowQ h q v n k).getD i 0+(if k<v then -1 else q-1)*(0::(rowQ h q v n k).dropLast).getD i 0=(h:Int)*kS q v (k+1) i:=by
  have e1:∀i,i<n+1→(rowQ h q v n k).getD i 0=(h:Int)*kS q v k i:=fun i hi=>zdy hi
  rw [e1 i hi,ybK]
  show _=(h:Int)*(kS q v k i+_*sh (kS q v k) i)
  rw [Int.mul_add,Int.mul_left_comm]
  congr 2
  cases i with
  | zero=>show (0:Int)=_*0;rw [Int.mul_zero]
  | succ i =>
    rw [List.getD_cons_succ]
    show _=(h:Int)*kS q v k i
    rw [←e1 i (by omega),List.getD_eq_getElem?_getD,List.getD_eq_getElem?_getD,List.getElem?_dropLast,if_pos (by rw [zc3];omega)]
theorem ygm {xs:List Int} {k:Nat} (h:xs.length=k+1):cutV (xs.map V.int) none (some (-1))=xs.dropLast.map V.int:=by
  unfold cutV
  rw [HT.sIx_none]
  have e1:HT.sIx (xs.map V.int).length (xs.map V.int).length (some (-1))=k:=by
    show (if (-1:Int)<0 then ((-1:Int)+((xs.map V.int).length:Int)).toNat else min (-1:Int).toNat (xs.map V.int).length)=_
    rw [if_pos (by omega),List.length_map,h];omega
  rw [e1,List.dropLast_eq_take,h,List.map_take]
  simp
inductive ydW (K:PySem.W.Frag) (vs:List V) (H:Hp) (Q:VK) (E:XK):Prop
  | mk (q n:Nat) (a:Addr) (ns:List Nat) (c1:vs=[Vn q,.ref a]) (c2:SqT K H a (ns.map Vn)) (c3:ns.length=n+1) (c4:n≤63) (c6:q≤64) (c7:0<ns.sum) (c8:ns.sum<2^400) (c9:∀r H',Same H H'→H' r=some (.tup ((fcL (q:Int) ns n).map V.int))→Q (.ref r) H'):ydW K vs H Q E
theorem yat:yai ["_law_q","_law_held","_law_n","_law_total","_law_v","_law_row","_law_k","_law_by"] ["_law_q","_law_held"] (yac zaT):=⟨rfl,rfl,rfl,by decide +kernel,rfl,by decide +kernel,by decide +kernel⟩
theorem ygt (B:Bl mg) (F:Fun K "_law_due" "_law_due" zaT f fd):FnOk P w K mg base CX0 1 f fd ["_law_q","_law_held"] (ydW K):=by
  refine F.ok yat (fun vs H Q E h=>?_) (fun cdv A outer s H vs Q E hr h=>?_)
  · obtain ⟨q,n,a,ns,rfl,_⟩:=h;rfl
  obtain ⟨q,n,a,ns,rfl,hns,hl,hn,hq,hs0,hs,ret⟩:=h
  refine ⟨_,((2<|>yat.nd<|>(zaH|||(yal>>>("len",PySem.boot_len,((pv 1)>=>zab)))|||yab))<=<(3<|>yat.nd<|>(zcm|||(@yam _ _ _ _ (yab>=>zab))|||(zan|||(pv 2)|||yab)))<=<((↑((zan|||(pv 2)|||yab)>=>zab))<&>((4&&&yat.nd),((5<|>yat.nd<|>(ybU|||(@yam _ _ _ _ ((yas<<<(pv 1)<<<(pv 4))>=>zab))|||(zcm|||(@yam _ _ _ _ (yab>=>zab))|||(pv 2))))<=<((↑((yaH|||(pv 2)|||(zcq<*("int",ybI,((@zcR _ _ _ _ _ _ _ _ zdP (yas<<<(pv 1)<<<(pv 4)) yab (yds _))>=>zab))))>=>zab))<&>((6&&&yat.nd),((7<|>yat.nd<|>(zai<<<(@yam _ _ _ _ ((zaH|||(pv 0)|||yab)>=>(zaH|||yab|||yab)>=>zab))<<<(zcq<*("int",ybI,((@zcR _ _ _ _ _ _ _ _ ygC (pv 6) (pv 4) (yds _))>=>zab)))))<=<(~~~(@za7 _ 5 _ _ _ _ _ _ _ _ _ ["_law_a","_law_b"] ["_law_by"] [7] _ _ _ _ yat.nd rfl (Or.inl rfl) (id (α:=CSc ["_law_q","_law_held","_law_n","_law_total","_law_v","_law_row","_law_k","_law_by"] (yac zaT) ["_law_a","_law_b"] ["_law_by"] [7] _) ⟨by rfl,by decide +kernel,by decide +kernel,by decide +kernel,by decide +kernel,by rfl,by decide +kernel⟩) rfl (@zdn _ _ _ _ _ _ _ _ _ rfl (B "zip" (by decide)) ((pv 5)>=>(ybU|||(@yam _ _ _ _ (yab>=>zab))|||(@ybM _ _ _ _ _ _ _ _ _ _ zdF (pv 5) yci (@zcg _ _ _ (@zeq _ _ _ _ _ _ ycP yab))))>=>zab) (by rfl) (by rfl)) (fun cl C fp s H=>(@zbY _ _ _ _ 2 _ K rfl rfl ((0⊇["_law_a","_law_b","_law_by"])∩((1⊇["_law_a","_law_b","_law_by"])∩yax)) (by rfl) (by rfl))) (fun _ _ _ _ _=>yaw) (fun _ _ _ _ _=>(zan|||(pv 0)|||(yaH|||(pv 2)|||(pv 1)))) (by rfl) (by intro _;rfl) (by first|exact .inl rfl|exact .inr rfl|assumption))))))<=<(~~~(@za7 _ 3 _ _ _ _ _ _ _ _ _ ["_law_a","_law_b"] [] [] _ _ _ _ yat.nd rfl (Or.inl rfl) (id (α:=CSc ["_law_q","_law_held","_law_n","_law_total","_law_v","_law_row","_law_k","_law_by"] (yac zaT) ["_law_a","_law_b"] [] [] _) ⟨by rfl,by decide +kernel,by decide +kernel,by decide +kernel,by decide +kernel,by rfl,by decide +kernel⟩) rfl (@zdn _ _ _ _ _ _ _ _ _ rfl (B "zip" (by decide)) ((pv 3)>=>(pv 5)>=>zab) (by rfl) (by rfl)) (fun cl C fp s H=>(@zbY _ _ _ _ 2 _ K rfl rfl ((0⊇["_law_a","_law_b"])∩((1⊇["_law_a","_law_b"])∩yax)) (by rfl) (by rfl))) (fun _ _ _ _ _=>yaw) (fun _ _ _ _ _=>(zan|||(pv 0)|||(pv 1))) (by rfl) (by intro _;rfl) (by first|exact .inl rfl|exact .inr rfl|assumption))))))<=<(~~~((zav<*("tuple",yau,((["_law_one"]⊆(["_law_held"],[1],["_law_q","_law_held","_law_n","_law_total","_law_v","_law_row","_law_k","_law_by"],zaT,(@zaI _ _ _ _ (pv 3)),(0⊇["_law_one","_law_held"]),yaw,(zdD|||(pv 0)|||((zcK (K:=K) rfl rfl)>>>("sum",PyProof.Rows.boot_sum,((pv 1)>=>zab))))))>=>zab)))⁻¹))),?_⟩
  refine ⟨_,rfl,a,_,rfl,.inr hns,_,_,rfl,rfl,?_⟩
  rw [List.length_map,hl,show (((n+1:Nat):Int))-1=(n:Int) by omega]
  dsimp only [yan]
  refine ⟨szl 1,fun z0 hz0=>?_⟩
  have s0:=yaa hz0 (.lst [V.int 0])
  refine ⟨_,rfl,_,_,rfl,rfl,z0,_,_,rfl,rfl,zaa,by omega,by omega,by rw [show ((n:Int)+1).toNat=n+1 by omega];exact szl _ (by simp;omega),fun tl htl=>?_⟩
  rw [show ((n:Int)+1).toNat=n+1 by omega,zaV,zfa (q:Int) ns]
  have s1:=s0.trans (yaa htl (.lst ((tL (q:Int) ns n 0).map V.int)))
  have e1:upd (upd H z0 (.lst [V.int 0])) tl (.lst ((tL (q:Int) ns n 0).map V.int)) tl=some (.lst ((tL (q:Int) ns n 0).map V.int)):=zaa
  dsimp only [yan]
  generalize upd (upd H z0 (.lst [V.int 0])) tl (.lst ((tL (q:Int) ns n 0).map V.int))=H1 at s1 e1 ⊢
  refine ⟨_,rfl,_,_,rfl,rfl,_,rfl,by omega,by omega,?_⟩
  rw [show (n:Int)+1=((n+1:Nat):Int) by omega]
  refine yaz (lo:=0) (n:=((n+1:Nat):Int).toNat) (fun v σ H'=>Same H H'∧∃(tt:Addr) (s4 s5 s6 s7:Option V),H' tt=some (.lst ((tL (q:Int) ns n v).map V.int))∧σ=[some (Vn q),some (.ref a),some (Vn n),some (.ref tt),s4,s5,s6,s7]) ⟨s1,tl,none,none,none,none,e1,rfl⟩ ?_ ?_
  · rw [Int.toNat_natCast]
    rintro v σ H2 hv ⟨s2,tt,s4,s5,s6,s7,e2,rfl⟩
    have ev:V.int (0+(v:Int))=Vn v:=by rw [Int.zero_add]
    rw [ev]
    obtain ⟨hh,ehh⟩:∃hh,hh=ns.getD v 0:=⟨_,rfl⟩
    have at1:atI (ns.map Vn) (v:Int)=some (Vn hh):=by rw [ehh];exact zaW (yaQ (by omega))
    dsimp only [yan]
    refine ⟨_,rfl,_,rfl,a,_,_,Vn hh,rfl,rfl,Same.tup s2 hns,at1,szl 1,fun z1 hz1=>?_⟩
    have t1:=yaa hz1 (.lst [Vn hh])
    refine ⟨szl 1,fun z2 hz2=>?_⟩
    have t2:=yaa hz2 (.lst [V.int 0])
    refine ⟨_,rfl,z2,_,_,rfl,rfl,zaa,by omega,by omega,by rw [Int.toNat_natCast];exact szl _ (by simp;omega),fun z3 hz3=>?_⟩
    rw [Int.toNat_natCast,zaV]
    have t3:=yaa hz3 (.lst ((List.replicate n 0).map Vn))
    refine ⟨z1,z3,_,_,rfl,rfl,t3 _ _ (t2 _ _ zaa),zaa,by simp;exact szl _ (by omega),fun rr hrr=>?_⟩
    have t4:=yaa hrr (.lst ([Vn hh]++(List.replicate n 0).map Vn))
    have er:upd (upd (upd (upd H2 z1 (.lst [Vn hh])) z2 (.lst [V.int 0])) z3 (.lst ((List.replicate n 0).map Vn))) rr (.lst ([Vn hh]++(List.replicate n 0).map Vn)) rr=some (.lst ((rowQ hh (q:Int) v n 0).map V.int)):=by
      rw [←ze4];exact zaa
    have s3:=s2.trans (t1.trans (t2.trans (t3.trans t4)))
    have e3:=t4 _ _ (t3 _ _ (t2 _ _ (t1 _ _ e2)))
    dsimp only [yan]
    change tSeq _ _ _ _ (upd (upd (upd (upd H2 z1 (.lst [Vn hh])) z2 (.lst [V.int 0])) z3 (.lst ((List.replicate n 0).map Vn))) rr (.lst ([Vn hh]++(List.replicate n 0).map Vn)))
    generalize upd (upd (upd (upd H2 z1 (.lst [Vn hh])) z2 (.lst [V.int 0])) z3 (.lst ((List.replicate n 0).map Vn))) rr (.lst ([Vn hh]++(List.replicate n 0).map Vn))=H3 at er s3 e3 ⊢
    obtain ⟨N,eN,hN⟩:∃N:Nat,(n:Int)*(if decide ((0:Int)<(hh:Int))=true then 1 else 0)=(N:Int)∧(N=n∨N=0∧hh=0):=by
      by_cases c:0<hh
      · exact ⟨n,by rw [if_pos (decide_eq_true (by omega))];omega,.inl rfl⟩
      · exact ⟨0,by rw [if_neg (by rw [decide_eq_false (by omega)];decide)];omega,.inr ⟨rfl,by omega⟩⟩
    refine ⟨_,rfl,_,rfl,_,rfl,a,_,_,Vn hh,rfl,rfl,Same.tup s3 hns,at1,_,_,rfl,rfl,.inr ⟨_,rfl,_,_,rfl,rfl,.inl ⟨by omega,by omega⟩,?_⟩⟩
    rw [eN]
    refine ⟨_,rfl,by omega,by omega,?_⟩
    refine yaz (lo:=0) (n:=(N:Int).toNat) (fun k σ H'=>Same H H'∧H' tt=some (.lst ((tL (q:Int) ns n v).map V.int))∧∃(r5:Addr) (s6 s7:Option V),H' r5=some (.lst ((rowQ hh (q:Int) v n k).map V.int))∧σ=[some (Vn q),some (.ref a),some (Vn n),some (.ref tt),some (Vn v),some (.ref r5),s6,s7]) ⟨s3,e3,rr,s6,s7,er,rfl⟩ ?_ ?_
    · rw [Int.toNat_natCast]
      rintro k σ H4 hk ⟨s4',e4,r5,s6,s7,er4,rfl⟩
      have ek:V.int (0+(k:Int))=Vn k:=by rw [Int.zero_add]
      rw [ek]
      have hkn:k<n:=by omega
      dsimp only [yan]
      obtain ⟨fc,efc⟩:∃fc:Int,fc=if k<v then -1 else (q:Int)-1:=⟨_,rfl⟩
      have fb : -(2^64)<fc∧fc<2^64:=by rw [efc];split <;> omega
      have efx:atI [V.int ((q:Int)-1),V.int (0-1)] (if decide ((k:Int)<(v:Int))=true then 1 else 0)=some (V.int fc):=by
        by_cases c:k<v
        · rw [if_pos (decide_eq_true (by omega)),efc,if_pos c];rfl
        · rw [if_neg (by rw [decide_eq_false (by omega)];decide),efc,if_neg c];rfl
      refine ⟨_,rfl,_,_,rfl,rfl,_,_,rfl,rfl,szl 2,fun b1 hb1=>?_⟩
      have u1:=yaa hb1 (.lst [V.int ((q:Int)-1),V.int (0-1)])
      refine ⟨_,rfl,_,rfl,_,_,rfl,rfl,.inr ⟨_,rfl,b1,_,_,V.int fc,rfl,rfl,SqL.of zaa,efx,?_⟩⟩
      have e5:=u1 _ _ e4
      have er5:=u1 _ _ er4
      have s5':=s4'.trans u1
      dsimp only [yan]
      generalize upd H4 b1 (.lst [V.int ((q:Int)-1),V.int (0-1)])=H5 at e5 er5 s5' ⊢
      have lr:(rowQ hh (q:Int) v n k).length=n+1:=zc3 _ _ _ _ _
      refine ⟨_,rfl,szl 1,fun z4 hz4=>?_⟩
      have u2:=yaa hz4 (.lst [V.int 0])
      refine ⟨_,rfl,_,rfl,_,rfl,r5,_,rfl,SqL.of (u2 _ _ er5),fun cu hcu=>?_⟩
      rw [ygm lr]
      have u3:=yaa hcu (.lst ((rowQ hh (q:Int) v n k).dropLast.map V.int))
      have ld:(rowQ hh (q:Int) v n k).dropLast.length=n:=by rw [List.length_dropLast,lr];rfl
      refine ⟨z4,cu,_,_,rfl,rfl,u3 _ _ zaa,zaa,by rw [List.length_map,ld];exact szl _ (by simp;omega),fun l2 hl2=>?_⟩
      have u4:=yaa hl2 (.lst ([V.int 0]++(rowQ hh (q:Int) v n k).dropLast.map V.int))
      have f2:upd (upd (upd H5 z4 (.lst [V.int 0])) cu (.lst ((rowQ hh (q:Int) v n k).dropLast.map V.int))) l2 (.lst ([V.int 0]++(rowQ hh (q:Int) v n k).dropLast.map V.int)) l2=some (.lst ((0::(rowQ hh (q:Int) v n k).dropLast).map V.int)):=zaa
      have e6:=u4 _ _ (u3 _ _ (u2 _ _ e5))
      have er6:=u4 _ _ (u3 _ _ (u2 _ _ er5))
      have s6':=s5'.trans (u2.trans (u3.trans u4))
      generalize upd (upd (upd H5 z4 (.lst [V.int 0])) cu (.lst ((rowQ hh (q:Int) v n k).dropLast.map V.int))) l2 (.lst ([V.int 0]++(rowQ hh (q:Int) v n k).dropLast.map V.int))=H6 at e6 er6 s6' f2 ⊢
      refine ⟨false,false,r5,l2,rfl,⟨_,SqL.of er6⟩,⟨_,SqL.of f2⟩,?_⟩
      have lb:(0::(rowQ hh (q:Int) v n k).dropLast).length=n+1:=by rw [List.length_cons,ld]
      refine yak (zbU (b1:=false) (b2:=false) (xs:=(rowQ hh (q:Int) v n k).map V.int) (ys:=(0::(rowQ hh (q:Int) v n k).dropLast).map V.int)) (fun j acc H'=>Same H6 H'∧acc=((List.range j).map fun i=>(hh:Int)*kS (q:Int) v (k+1) i).map V.int) ⟨Same.refl _,rfl⟩ (fun i acc H' _ h=>⟨SqL.of (h.1 _ _ er6),SqL.of (h.1 _ _ f2)⟩) ?_ ?_ ?_
      · rintro j acc H' hj ⟨_,rfl⟩
        rw [List.length_map,List.length_map,lr,lb,Nat.min_self] at hj
        rw [List.length_map,List.length_map,List.length_range]
        exact zaf (by omega)
      · rintro j acc z H7 H8 hj ⟨s7',rfl⟩ ⟨T',u,x,rfl,eu,ev,hT',rfl⟩
        rw [List.length_map,List.length_map,lr,lb,Nat.min_self] at hj
        rw [yby (by omega)] at eu ev
        cases eu;cases ev
        have s8':=s7'.trans (yaa hT' (.tup [V.int ((rowQ hh (q:Int) v n k).getD j 0),V.int ((0::(rowQ hh (q:Int) v n k).dropLast).getD j 0)]))
        refine ⟨T',_,rfl,SqT.of zaa,rfl,_,_,rfl,_,_,rfl,rfl,?_⟩
        refine ⟨_,rfl,_,rfl,_,rfl,_,_,rfl,rfl,.inl fb,_,_,rfl,rfl,s8',?_⟩
        have:=zft (h:=hh) (n:=n) (v:=v) (k:=k) (q:=(q:Int)) hj
        rw [efc,this,List.range_succ,List.map_append,List.map_append];rfl
      · rw [List.length_map,List.length_map,lr,lb,Nat.min_self]
        rintro acc H7 ⟨s7',rfl⟩ l3 hl3
        have sn:=yaa hl3 (.lst (((List.range (n+1)).map fun i=>(hh:Int)*kS (q:Int) v (k+1) i).map V.int))
        exact ⟨s6'.trans (s7'.trans sn),sn _ _ (s7' _ _ e6),l3,_,_,zaa,rfl⟩
    · rw [Int.toNat_natCast]
      rintro σ H4 ⟨s4',e4,r5,s6,s7,er4,rfl⟩
      have eR:rowQ hh (q:Int) v n N=(List.range (n+1)).map fun i=>(hh:Int)*kS (q:Int) v n i:=by
        rcases hN with h | ⟨_,h⟩
        · rw [h];rfl
        · unfold rowQ;rw [h];refine List.map_congr_left fun i _=>by simp
      have lR:(rowQ hh (q:Int) v n N).length=n+1:=zc3 _ _ _ _ _
      have lt1:=yeg (q:Int) ns n v
      refine ⟨_,rfl,_,rfl,false,false,tt,r5,rfl,⟨_,SqL.of e4⟩,⟨_,SqL.of er4⟩,?_⟩
      refine yak (zbU (b1:=false) (b2:=false) (xs:=(tL (q:Int) ns n v).map V.int) (ys:=(rowQ hh (q:Int) v n N).map V.int)) (fun j acc H'=>Same H4 H'∧acc=((List.range j).map fun i=>sL (List.range (v+1)) fun v=>((ns.getD v 0:Nat):Int)*kS (q:Int) v n i).map V.int) ⟨Same.refl _,rfl⟩ (fun i acc H' _ h=>⟨SqL.of (h.1 _ _ e4),SqL.of (h.1 _ _ er4)⟩) ?_ ?_ ?_
      · rintro j acc H' hj ⟨_,rfl⟩
        rw [List.length_map,List.length_map,lt1,lR,Nat.min_self] at hj
        rw [List.length_map,List.length_map,List.length_range]
        exact zaf (by omega)
      · rintro j acc z H5 H6 hj ⟨s6,rfl⟩ ⟨T',u,x,rfl,eu,ev,hT',rfl⟩
        rw [List.length_map,List.length_map,lt1,lR,Nat.min_self] at hj
        rw [yby (by omega)] at eu ev
        cases eu;cases ev
        have s7:=s6.trans (yaa hT' (.tup [V.int ((tL (q:Int) ns n v).getD j 0),V.int ((rowQ hh (q:Int) v n N).getD j 0)]))
        refine ⟨T',_,rfl,SqT.of zaa,rfl,_,_,rfl,_,_,rfl,rfl,?_⟩
        refine ⟨_,rfl,_,rfl,_,_,rfl,rfl,s7,?_⟩
        have e9:=yeR (q:=(q:Int)) (ns:=ns) (k:=v) hj
        rw [show (shL (q:Int) v n).getD j 0=kS (q:Int) v n j from zdy hj,←ehh] at e9
        rw [eR,zdy hj,e9,List.range_succ (n:=j),List.map_append,List.map_append];rfl
      · rw [List.length_map,List.length_map,lt1,lR,Nat.min_self]
        rintro acc H5 ⟨s6,rfl⟩ l3 hl3
        exact ⟨s4'.trans (s6.trans (yaa hl3 _)),l3,_,_,_,_,zaa,rfl⟩
  · rw [Int.toNat_natCast]
    rintro σ H2 ⟨s2,tt,s4,s5,s6,s7,e2,rfl⟩
    have lt1:=yeg (q:Int) ns n (n+1)
    refine ⟨_,rfl,tt,rfl,⟨_,SqL.of e2⟩,?_⟩
    refine yak (yaD (xs:=(tL (q:Int) ns n (n+1)).map V.int)) (fun j acc H'=>H'=H2∧acc=(((tL (q:Int) ns n (n+1)).take j).map fun x=>x/((ns.sum:Nat):Int)).map V.int) ⟨rfl,rfl⟩ (fun i acc H' _ h=>by rw [h.1];exact SqL.of e2) ?_ ?_ ?_
    · rintro j acc H' hj ⟨_,rfl⟩
      rw [List.length_map,lt1] at hj
      rw [List.length_map,List.length_map,List.length_take]
      exact zaf (by omega)
    · rintro j acc z H5 H6 hj ⟨rfl,rfl⟩ ⟨rfl,ez⟩
      rw [List.length_map,lt1] at hj
      rw [yby (by omega)] at ez
      cases ez
      refine ⟨_,rfl,_,rfl,a,ns.map fun n:Nat=>(n:Int),rfl,?_,_,_,rfl,rfl,⟨?_,?_⟩,rfl,?_⟩
      · rw [List.map_map];exact Same.tup s2 hns
      · rw [zbd];omega
      · rw [zbd]
        have h4:ns.sum<2^1000:=Nat.lt_trans hs (Nat.pow_lt_pow_right (by decide) (by decide))
        exact_mod_cast h4
      · rw [zbd,zbg (d:=0) (by omega:j<(tL (q:Int) ns n (n+1)).length),List.map_append,List.map_append];rfl
    · rw [List.length_map,lt1]
      rintro acc H5 ⟨rfl,ea⟩ D hD
      rw [List.take_of_length_le (by omega)] at ea
      subst ea
      refine ⟨D,_,rfl,.inl ⟨SqL.of zaa,fun r hr=>?_⟩⟩
      exact ret r _ (s2.trans ((yaa hD _).trans (yaa hr _))) zaa
end
end My
end
section
-- text: M58d
set_option Elab.async false
set_option linter.all false
set_option maxRecDepth 100000
set_option maxHeartbeats 4000000
set_option exponentiation.threshold 1100
namespace My
open PySem L2 Dg
theorem zg3 (ns:List Nat):((ns.sum:Nat):Int)=sL (List.range ns.length) fun w=>((ns.getD w 0:Nat):Int)*1:=by
  rw [←zbd]
  unfold sL
  congr 1
  refine List.ext_getElem (by simp) fun i h1 h2=>?_
  have hi:i<ns.length:=by simpa using h1
  simp [List.getD,hi]
section
variable {p m t few root n fr:Nat} {marks:List Nat} (G:Good p m t) (W:Whl p m t few root n marks) (hfr:fr+marks.length=n)
include G W hfr
theorem zhb:∀r∈lwL p m t root n marks few fr,wt r≤n:=fun r hr=>by
  have:=ygK r
  rw [(yaW (root:=root) (marks:=marks) (n:=n) (few:=few) G fr (by omega) r hr).1] at this
  exact this
theorem yf4:(lwL p m t root n marks few fr).length=(p^few)^fr:=by rw [zcv,zdV G W.fewm W.few1]
theorem zdM:(hst n (lwL p m t root n marks few fr)).sum=(p^few)^fr:=by
  have h:=zg3 (hst n (lwL p m t root n marks few fr))
  rw [zbM,zfs (fun _=>1) (zhb G W hfr),ya1,Int.mul_one,yf4 G W hfr] at h
  exact Int.ofNat.inj h
theorem zga:fcL ((p^few:Nat):Int) (hst n (lwL p m t root n marks few fr)) n=(hst n (lwL p m t root n (zaw marks n) few marks.length)).map fun n:Nat=>(n:Int):=by
  have hp:=G.hp
  unfold fcL tL
  rw [List.map_map]
  conv=>rhs;unfold hst
  rw [List.map_map]
  refine List.map_congr_left fun i hi=>?_
  show (sL (List.range (n+1)) fun v=>(((hst n (lwL p m t root n marks few fr)).getD v 0:Nat):Int)*kS ((p^few:Nat):Int) v n i)/(((hst n (lwL p m t root n marks few fr)).sum:Nat):Int)=((List.countP (fun r=>wt r==i) (lwL p m t root n (zaw marks n) few marks.length):Nat):Int)
  rw [zfs (fun v=>kS ((p^few:Nat):Int) v n i) (zhb G W hfr),mac G W hfr,zdM G W hfr,zgb,yf4 G W hfr]
  have h0:0<(p^few)^fr:=Nat.pow_pos (Nat.pow_pos (by omega))
  exact Int.mul_ediv_cancel_left _ (by omega)
theorem ygs:fcL ((p^few:Nat):Int) (hst n (lwL p m t root n (zaw marks n) few marks.length)) n=(hst n (lwL p m t root n marks few fr)).map fun n:Nat=>(n:Int):=by
  have fn:=zbO W.asc W.lt
  have h:=zga G (Whl.face G W) (fr:=marks.length) (by omega)
  rw [zeE W.asc W.lt,show (zaw marks n).length=fr by omega] at h
  exact h
end
end My
end
section
-- text: Q58
set_option Elab.async false
set_option linter.all false
set_option maxRecDepth 100000
set_option maxHeartbeats 4000000
set_option exponentiation.threshold 1100
namespace My
open PySem L2 Dg
theorem ygp {n k:Nat} (h:k≤n):(-(k:Int))%(n:Int)=(((n-k)%n:Nat):Int):=by
  rw [Int.natCast_emod,show ((n-k:Nat):Int) = -(k:Int)+n by omega,Int.add_emod_right]
theorem yfh (marks:List Nat) (n k:Nat):((List.range (k+1)).filter fun i=>decide ((n-i)%n∉marks))=((List.range k).filter fun i=>decide ((n-i)%n∉marks))++(if (n-k)%n∈marks then [] else [k]):=by
  rw [List.range_succ,List.filter_append]
  congr 1
  by_cases h:(n-k)%n∈marks
  · simp [h]
  · simp [h]
theorem yfJ {marks:List Nat} {n i:Nat} (hl:∀x∈marks,x<n) (hi:i<n):i∈marks.map (fun x=>(n-x)%n)↔(n-i)%n∈marks:=by
  rw [List.mem_map]
  constructor
  · rintro ⟨x,hx,rfl⟩
    rw [za8 (hl x hx)];exact hx
  · intro h
    exact ⟨_,h,za8 hi⟩
section
variable {P:Program} {w:World} {K:PySem.W.Frag} {mg:Str→Option Value} {base:Heap} {f:Addr} {fd:FuncData}
inductive zcL (K:PySem.W.Frag) (vs:List V) (H:Hp) (Q:VK) (E:XK):Prop
  | mk (a:Addr) (ns:List Int) (c1:vs=[.ref a]) (c2:SqL K H a (ns.map V.int)) (c3:∀H',Q (.bl true) H'):zcL K vs H Q E
theorem zaZ:yai ["_law_script","_law_purse_here","_law_turn","_law_most","_law_table_here","_law_wheel_here","_law_n","_law_q","_law_held","_law_due_here","_law_told","_law_gone","_law_others","_law_other"] ["_law_script"] (yac yc2):=⟨rfl,rfl,rfl,by decide +kernel,rfl,by decide +kernel,by decide +kernel⟩
theorem ygX (B:Bl mg) (h__law_purse:Has P w K mg base 1 "_law_purse" ["_law_script"] (zcV K)) (h__law_pick:Has P w K mg base 1 "_law_pick" ["_law_purse_here","_law_many"] ybX) (h__law_small_wheel:Has P w K mg base 6 "_law_small_wheel" ["_law_purse_here","_law_most","_law_listed"] ycg) (h__law_round:Has P w K mg base 2 "_law_round" ["_law_table_here","_law_one"] zaP) (h__law_raised:Has P w K mg base 1 "_law_raised" ["_law_one","_law_many"] yah) (h__law_counts:Has P w K mg base 5 "_law_counts" ["_law_table_here","_law_wheel_here"] ybW) (h__law_due:Has P w K mg base 1 "_law_due" ["_law_q","_law_held"] (ydW K)) (h_facing_counts:Has P w K mg base 2 "facing_counts" ["q","counts"] (zb1 K)) (h__law_many_words:Has P w K mg base 3 "_law_many_words" ["_law_table_here","_law_wheel_here"] ycj) (F:Fun K "law" "law" yc2 f fd):FnOk P w K mg base CX0 7 f fd ["_law_script"] (zcL K):=by
  refine F.ok zaZ (fun vs H Q E h=>?_) (fun cdv A outer s H vs Q E hr h=>?_)
  · obtain ⟨a,ns,rfl,_⟩:=h;rfl
  obtain ⟨a,ns,rfl,ha,q⟩:=h
  refine ⟨_,((1<|>zaZ.nd<|>(h__law_purse<$>((pv 0)>=>zab)))<=<((↑(yab>=>zab))<&>((2&&&zaZ.nd),((3<|>zaZ.nd<|>(zai<<<(@yam _ _ _ _ (yab>=>yab>=>yab>=>yab>=>zab))<<<(h__law_pick<$>((pv 1)>=>yab>=>zab))))<=<((h__law_small_wheel<$>((pv 1)>=>(pv 3)>=>yab>=>zab))≈((4&&&zaZ.nd)∩((5&&&zaZ.nd)∩yax)))<=<((@ybb _ _ _ _ _ ((h__law_round<$>((pv 4)>=>(yas<<<(pv 5)<<<yab)>=>zab))>=>(h__law_raised<$>(((pv 4)⊃zax)>=>(yas<<<(pv 5)<<<yab)>=>zab))>=>zab))≈((6&&&zaZ.nd)∩((7&&&zaZ.nd)∩yax)))<=<(8<|>zaZ.nd<|>(h__law_counts<$>((pv 4)>=>(pv 5)>=>zab)))<=<(9<|>zaZ.nd<|>(h__law_due<$>((pv 7)>=>(pv 8)>=>zab)))<=<(10<|>zaZ.nd<|>(@yam _ _ _ _ ((h_facing_counts<$>((pv 7)>=>(pv 8)>=>zab))>=>(h_facing_counts<$>((pv 7)>=>(pv 8)>=>zab))>=>zab)))<=<((yeG∪((zcw hr.gd hr.units)>>>("repr",PyProof.Rows.boot_repr,((pv 10)>=>zab)))∪((zcw hr.gd hr.units)>>>("repr",PyProof.Rows.boot_repr,((@yam _ _ _ _ ((pv 9)>=>(pv 9)>=>zab))>=>zab))))*>((~~~(zey⁻¹)),zaC))<=<(((yf8 hr.units0)∪(h_facing_counts<$>((pv 7)>=>(pv 9)>=>zab))∪(pv 8))*>((~~~(zey⁻¹)),zaC))<=<(11<|>zaZ.nd<|>(["_law_mark"]⊆(["_law_n"],[6],["_law_script","_law_purse_here","_law_turn","_law_most","_law_table_here","_law_wheel_here","_law_n","_law_q","_law_held","_law_due_here","_law_told","_law_gone","_law_others","_law_other"],yc2,(@zeN _ _ _ _ (yas<<<(pv 5)<<<yab)),(0⊇["_law_mark","_law_n"]),yaw,(yaB|||(zaH|||yab|||(pv 0))|||(pv 1)))))<=<(@za7 _ 12 _ _ _ _ _ _ _ _ _ ["_law_number_here"] ["_law_gone"] [11] _ _ _ _ zaZ.nd rfl (Or.inl rfl) (id (α:=CSc ["_law_script","_law_purse_here","_law_turn","_law_most","_law_table_here","_law_wheel_here","_law_n","_law_q","_law_held","_law_due_here","_law_told","_law_gone","_law_others","_law_other"] (yac yc2) ["_law_number_here"] ["_law_gone"] [11] _) ⟨by rfl,by decide +kernel,by decide +kernel,by decide +kernel,by decide +kernel,by rfl,by decide +kernel⟩) rfl (↑((pv 6)>=>zab)) (fun cl C fp s H=>(0⊇["_law_number_here","_law_gone"])) (fun _ _ _ _ _=>(@zbE _ _ _ (@ydH _ _ _ _ _ _ _ _ (ydg (K:=K) rfl) (pv 0) (pv 1) (by with_unfolding_all rfl)))) (fun _ _ _ _ _=>(pv 0)) (by rfl) (by intro _;rfl) (by first|exact .inl rfl|exact .inr rfl|assumption))<=<(13<|>zaZ.nd<|>(yfj|||(@ybM _ _ _ _ _ _ _ _ _ _ ygg (pv 5) yci (@zcg _ _ _ yab))|||(@ybb _ _ _ _ _ ((zav<*("tuple",yau,((pv 12)>=>zab)))>=>zab))))<=<(~~~((@PW.pt _ _ _ (@zfk _ _ _ _ _ _ _ (yg0∪(h__law_many_words<$>((pv 4)>=>(pv 13)>=>zab))∪yab) (@ydZ _ _ _ _ ((yf8 hr.units0)∪(h__law_counts<$>((pv 4)>=>(pv 13)>=>zab))∪(pv 9)))))*>((~~~(zey⁻¹)),zaC))))))<=<(~~~(zey⁻¹))),?_⟩
  refine ⟨_,rfl,a,ns,rfl,ha,fun pu g H1 n1 n2 s1 hP=>?_⟩
  refine ⟨2,rfl,by decide,by decide,?_⟩
  refine yaz (lo:=0) (n:=2) (fun i σ H'=>Pu H' pu g∧∃s2 s3 s4 s5 s6 s7 s8 s9 s10 s11 s12 s13,σ=[some (.ref a),some (.ref pu),s2,s3,s4,s5,s6,s7,s8,s9,s10,s11,s12,s13]) ⟨hP,none,none,none,none,none,none,none,none,none,none,none,none,rfl⟩ ?_ (fun σ H' _=>q _)
  rintro j σ H2 hj ⟨hP2,s2,s3,s4,s5,s6,s7,s8,s9,s10,s11,s12,s13,rfl⟩
  dsimp only [yan]
  refine ⟨szl 4,fun l1 hl1=>?_⟩
  have x1:=yaa hl1 (.lst [V.int 9,V.int 15,V.int 15,V.int 63])
  have nl1:=hP2.lt hl1
  refine ⟨_,rfl,pu,g,4,rfl,hP2.same x1,by omega,by omega,fun way H3 hway hP3 sx3=>?_⟩
  obtain ⟨most,hmost,hm63,em⟩:∃most:Nat,1≤most∧most≤63∧atI [V.int 9,V.int 15,V.int 15,V.int 63] (way:Int)=some (Vn most):=by
    have:way=0∨way=1∨way=2∨way=3:=by omega
    rcases this with rfl|rfl|rfl|rfl
    · exact ⟨9,by decide,by decide,rfl⟩
    · exact ⟨15,by decide,by decide,rfl⟩
    · exact ⟨15,by decide,by decide,rfl⟩
    · exact ⟨63,by decide,by decide,rfl⟩
  have el1:H3 l1=some (.lst [V.int 9,V.int 15,V.int 15,V.int 63]):=sx3 _ _ nl1.1 nl1.2 zaa
  refine ⟨l1,_,_,Vn most,rfl,rfl,SqL.of el1,em,?_⟩
  dsimp only [yan]
  refine ⟨_,rfl,_,rfl,pu,g,most,512,rfl,hP3,hmost,by decide,fun r tb fa pa la wh mk p m t b few root n marks H5 er T ap hW nwh nmk W hle hP5 sx5=>?_⟩
  refine ⟨r,_,rfl,SqT.of er,rfl,_,_,rfl,_,_,rfl,rfl,?_⟩
  have G:=T.good
  have hp:=G.hp
  have hm:=G.hm
  have hQ:=G.hq
  have hnq:=W.nq
  have hn0:=W.ord.pos
  have hml:=zdZ W.asc W.lt
  have hp2:=p_le hp hm hQ
  have hm6:=m_le hp hQ
  have hf1:=W.few1
  have hfm:few≤m:=Nat.le_of_dvd (by omega) (Nat.dvd_of_mod_eq_zero W.fewm)
  have hqq:p^few≤64:=Nat.le_trans (Nat.pow_le_pow_right (by omega) hfm) hQ
  have hq2:2≤p^few:=Nat.le_trans hp (Nat.le_self_pow (by omega) p)
  dsimp only [yan]
  refine ⟨_,rfl,_,rfl,wh,_,_,Vn root,rfl,rfl,SqT.of hW.w,rfl,tb,fa,pa,la,p,m,t,b,root,rfl,T,W.r0,W.rq,fun n' o' _=>?_⟩
  cases o'.uniq W.ord
  refine ⟨_,rfl,tb,_,rfl,T.get zdU,_,rfl,wh,_,_,Vn few,rfl,rfl,SqT.of hW.w,rfl,p,few,rfl,hp2,by omega,?_⟩
  refine ⟨szl 2,fun nq hnq'=>?_⟩
  have y1:=yaa hnq' (.tup [Vn n,Vn (p^few)])
  refine ⟨nq,_,rfl,SqT.of zaa,rfl,_,_,rfl,_,_,rfl,rfl,?_⟩
  have T6:=T.same y1
  have hW6:=hW.same y1
  have hP6:=hP5.same y1
  dsimp only [yan]
  generalize upd H5 nq (.tup [Vn n,Vn (p^few)])=H6 at T6 hW6 hP6 ⊢
  have fn:=zbO W.asc W.lt
  have hfr:(n-marks.length)+marks.length=n:=by omega
  have WF:=Whl.face G W
  refine ⟨_,rfl,_,rfl,tb,fa,pa,la,wh,mk,p,m,t,b,few,root,n,marks,rfl,T6,hW6,W,by omega,fun he H7 s7 e7=>?_⟩
  have tot1:=zdM G W hfr
  have tot2:=zdM G WF (fr:=marks.length) (by omega)
  have fc1:=zga G W hfr
  have fc2:=ygs G W hfr
  obtain ⟨A1,eA1⟩:∃A1,A1=hst n (lwL p m t root n marks few (n-marks.length)):=⟨_,rfl⟩
  obtain ⟨A2,eA2⟩:∃A2,A2=hst n (lwL p m t root n (zaw marks n) few marks.length):=⟨_,rfl⟩
  have l1':A1.length=n+1:=by rw [eA1];exact zbM _ _
  have l2':A2.length=n+1:=by rw [eA2];exact zbM _ _
  rw [←eA1] at e7 tot1 fc1 fc2
  rw [←eA2] at tot2 fc1 fc2
  have pos:∀k,0<(p^few)^k:=fun k=>Nat.pow_pos (by omega)
  have big:∀k,k≤n→(p^few)^k<2^400:=fun k hk=>yfl hqq (by omega)
  have p1:=pos (n-marks.length)
  have p2:=pos marks.length
  have b1:=big (n-marks.length) (by omega)
  have b2:=big marks.length hml
  rw [←tot1] at p1 b1
  rw [←tot2] at p2 b2
  have castV:∀l:List Nat,(l.map fun n:Nat=>(n:Int)).map V.int=l.map Vn:=fun l=>by rw [List.map_map];rfl
  refine ⟨_,rfl,_,rfl,p^few,n,he,A1,rfl,SqT.of e7,l1',by omega,hqq,p1,b1,fun du H8 s8 e8=>?_⟩
  rw [fc1,castV] at e8
  refine ⟨_,rfl,_,rfl,p^few,n,he,A1,rfl,SqT.of (s8 _ _ e7),l1',by omega,hq2,hqq,p1,b1,fun a1 H9 s9 e9=>?_⟩
  rw [fc1,castV] at e9
  refine ⟨_,rfl,_,rfl,p^few,n,he,A1,rfl,SqT.of (s9 _ _ (s8 _ _ e7)),l1',by omega,hq2,hqq,p1,b1,fun a2 H10 s10 e10=>?_⟩
  rw [fc1,castV] at e10
  refine ⟨szl 2,fun tl htl=>?_⟩
  have y2:=yaa htl (.lst [.ref a1,.ref a2])
  have eT:upd H10 tl (.lst [.ref a1,.ref a2]) tl=some (.lst [.ref a1,.ref a2]):=zaa
  have s610:=s7.trans (s8.trans (s9.trans (s10.trans y2)))
  have e7:=y2 _ _ (s10 _ _ (s9 _ _ (s8 _ _ e7)))
  have e8:=y2 _ _ (s10 _ _ (s9 _ _ e8))
  have e9:=y2 _ _ (s10 _ _ e9)
  have e10:=y2 _ _ e10
  dsimp only [yan]
  generalize upd H10 tl (.lst [.ref a1,.ref a2])=H11 at eT s610 e7 e8 e9 e10 ⊢
  have m2:∀x∈A2,x<2^400:=fun x hx=>by
    obtain ⟨i,hi,rfl⟩:=List.getElem_of_mem hx
    have:=zfy hi
    rw [zcN hi] at this
    omega
  obtain ⟨D,eD⟩:∃D,D=PyData.tuple (A2.map fun n:Nat=>PyData.int (n:Int)):=⟨_,rfl⟩
  obtain ⟨o1,o2,o3,o4⟩:=ygz m2 (by omega) D eD
  refine ⟨_,rfl,tl,[.ref a1,.ref a2],[D,D],rfl,SqL.of eT,rfl,?_,o1,o2,o3,o4,?_⟩
  · intro i x e hx he
    have hi:i=0∨i=1:=by
      have:=(List.getElem?_eq_some_iff.mp hx).1
      simp at this;omega
    rcases hi with rfl|rfl
    · cases hx;cases he;rw [eD];exact yc7 (k:=8) (SqT.of e9)
    · cases hx;cases he;rw [eD];exact yc7 (k:=8) (SqT.of e10)
  refine ⟨_,rfl,_,rfl,szl 2,fun l2 hl2=>?_⟩
  have y3:=yaa hl2 (.lst [.ref du,.ref du])
  refine ⟨l2,[.ref du,.ref du],[D,D],rfl,SqL.of zaa,rfl,?_,o1,o2,o3,o4,?_⟩
  · intro i x e hx he
    have hi:i=0∨i=1:=by
      have:=(List.getElem?_eq_some_iff.mp hx).1
      simp at this;omega
    rcases hi with rfl|rfl
    · cases hx;cases he;rw [eD];exact yc7 (k:=8) (SqT.of (y3 _ _ e8))
    · cases hx;cases he;rw [eD];exact yc7 (k:=8) (SqT.of (y3 _ _ e8))
  have s611:=s610.trans y3
  have e7:=y3 _ _ e7
  have e8:=y3 _ _ e8
  refine ⟨rfl,false,by rw [decide_eq_true rfl];rfl,?_⟩
  refine ite2 (fun c=>absurd c (by decide)) (fun _=>?_)
  generalize upd H11 l2 (.lst [.ref du,.ref du])=H12 at s611 e7 e8 ⊢
  have no:∀ {v:List Int},¬ (!decide (v=v))=true:=fun {v} h=>by rw [decide_eq_true rfl] at h;cases h
  refine ⟨_,rfl,_,rfl,p^few,n,du,A2,rfl,SqT.of e8,l2',by omega,hq2,hqq,p2,b2,fun a3 H13 s13 e13=>?_⟩
  rw [fc2] at e13
  refine ⟨_,rfl,a3,he,A1.map fun n:Nat=>(n:Int),A1.map fun n:Nat=>(n:Int),rfl,rfl,SqT.of e13,by rw [castV];exact SqT.of (s13 _ _ e7),_,rfl,?_⟩
  refine ite2 (fun c=>absurd c no) (fun _=>?_)
  have sA0:=s611.trans s13
  have e8:=s13 _ _ e8
  have hWA:=hW6.same sA0
  have TA:=T6.same sA0
  have hPA:=hP6.same sA0
  clear e7 e9 e10 e13 eT s610
  obtain ⟨HA,eHA⟩:∃HA,HA=H13:=⟨_,rfl⟩
  rw [←eHA] at e8 hWA TA hPA ⊢
  refine ⟨_,rfl,wh,_,_,.ref mk,rfl,rfl,SqT.of hWA.w,rfl,mk,rfl,⟨_,SqT.of hWA.k⟩,?_⟩
  refine yak (yc9 (xs:=marks.map Vn)) (fun k acc H'=>H'=HA∧acc=((marks.take k).map fun x=>(n-x)%n).map Vn) ⟨rfl,rfl⟩ (fun i acc H' _ h=>by rw [h.1];exact SqT.of hWA.k) ?_ ?_ ?_
  · rintro k acc H' hk ⟨_,rfl⟩
    rw [List.length_map] at hk
    rw [List.length_map,List.length_map,List.length_take];exact zaf (by omega)
  · rintro k acc z HB HC hk ⟨rfl,rfl⟩ ⟨rfl,ez⟩
    rw [List.length_map] at hk
    rw [yaQ hk] at ez
    cases ez
    have hk':marks[k]?=some (marks.getD k 0):=by rw [List.getElem?_eq_getElem hk];simp [List.getD,hk]
    have hlt:=W.lt _ (List.mem_of_getElem? hk')
    refine ⟨_,rfl,_,_,rfl,rfl,_,rfl,_,_,rfl,rfl,by show (0:Int)<n;omega,?_⟩
    refine ⟨rfl,?_⟩
    rw [yaT hk',List.map_append,List.map_append]
    show _++[V.int ((0-((marks.getD k 0:Nat):Int))%(n:Int))]=_
    rw [Int.zero_sub,ygp (by omega)];rfl
  rw [List.length_map,List.take_length]
  rintro acc HB ⟨rfl,rfl⟩ D5 hD5
  have e5:upd HB D5 (.lst ((marks.map fun x=>(n-x)%n).map Vn)) D5=some (.lst ((marks.map fun x=>(n-x)%n).map Vn)):=zaa
  have sB':=yaa hD5 (.lst ((marks.map fun x=>(n-x)%n).map Vn))
  dsimp only [yan]
  generalize upd HB D5 (.lst ((marks.map fun x=>(n-x)%n).map Vn))=HC at e5 sB' ⊢
  refine ⟨_,rfl,(n:Int),rfl,by omega,by omega,?_⟩
  refine yak ybA (fun k acc H'=>H'=HC∧acc=((List.range k).filter fun i=>decide ((n-i)%n∉marks)).map Vn) ⟨rfl,rfl⟩ (fun _ _ _ _ _=>trivial) ?_ ?_ ?_
  · rintro k acc H' hk ⟨_,rfl⟩
    have:=List.length_filter_le (fun i=>decide ((n-i)%n∉marks)) (List.range k)
    rw [List.length_range] at this
    rw [Int.toNat_natCast] at hk
    rw [List.length_map];exact zaf (by omega)
  · rintro k acc x H' H'' hk ⟨rfl,rfl⟩ ⟨rfl,rfl⟩
    rw [Int.toNat_natCast] at hk
    refine ⟨_,rfl,_,rfl,D5,_,rfl,.inl (SqL.of e5),rfl,ycE _,_,rfl,?_⟩
    have e:inV (V.int (0+(k:Int))) ((marks.map fun x=>(n-x)%n).map Vn)=decide ((n-k)%n∈marks):=by
      rw [Int.zero_add,ydu]
      exact decide_eq_decide.mpr (yfJ W.lt hk)
    rw [yfh]
    refine ite2 (fun c=>?_) (fun c=>?_)
    · have c':¬ (n-k)%n∈marks:=fun h=>by
        have c:(!inV (V.int (0+(k:Int))) ((marks.map fun x=>(n-x)%n).map Vn))=true:=c
        rw [e,decide_eq_true h] at c;exact absurd c (by decide)
      refine ⟨_,rfl,rfl,?_⟩
      rw [if_neg c',List.map_append,show V.int (0+(k:Int))=Vn k from yfk (Int.zero_add _)];rfl
    · have c':(n-k)%n∈marks:=Classical.byContradiction fun h=>c (by
        show (!inV (V.int (0+(k:Int))) ((marks.map fun x=>(n-x)%n).map Vn))=true
        rw [e,decide_eq_false h];rfl)
      refine ⟨rfl,?_⟩
      rw [if_pos c',List.append_nil]
  rw [Int.toNat_natCast]
  rintro acc HD ⟨rfl,rfl⟩ D7 hD7
  have sD':=sB'.trans (yaa hD7 (.lst ((zaw marks n).map Vn)))
  have e7:upd HD D7 (.lst ((zaw marks n).map Vn)) D7=some (.lst ((zaw marks n).map Vn)):=zaa
  dsimp only [yan]
  change tSeq _ _ _ _ (upd HD D7 (.lst ((zaw marks n).map Vn)))
  generalize upd HD D7 (.lst ((zaw marks n).map Vn))=HE at sD' e7 ⊢
  have hWE:=hWA.same sD'
  refine ⟨_,rfl,_,rfl,wh,_,rfl,SqT.of hWE.w,by rintro ⟨_,h⟩;exact absurd (show HT.sIx 4 4 (some 3)=4 from h) (by decide),fun w1 hw1=>?_⟩
  have t1:=yaa hw1 (.tup [.ref fa,Vn few,Vn root])
  refine ⟨_,rfl,D7,_,rfl,.inl ⟨SqL.of (t1 _ _ e7),fun mf hmf=>?_⟩⟩
  have t2:=yaa hmf (.tup ((zaw marks n).map Vn))
  refine ⟨szl 1,fun w2 hw2=>?_⟩
  have t3:=yaa hw2 (.tup [.ref mf])
  refine ⟨w1,w2,[.ref fa,Vn few,Vn root],[.ref mf],rfl,rfl,SqT.of (t3 _ _ (t2 _ _ zaa)),SqT.of zaa,szl 4,fun h=>absurd h (by simp),fun _ h=>absurd h (by simp),fun _ _ w3 hw3=>?_⟩
  have t4:=yaa hw3 (.tup [.ref fa,Vn few,Vn root,.ref mf])
  have sA:Same HE (upd (upd (upd (upd HE w1 (.tup [.ref fa,Vn few,Vn root])) mf (.tup ((zaw marks n).map Vn))) w2 (.tup [.ref mf])) w3 (.tup [.ref fa,Vn few,Vn root,.ref mf])):=t1.trans (t2.trans (t3.trans t4))
  have hV:WhAt (upd (upd (upd (upd HE w1 (.tup [.ref fa,Vn few,Vn root])) mf (.tup ((zaw marks n).map Vn))) w2 (.tup [.ref mf])) w3 (.tup [.ref fa,Vn few,Vn root,.ref mf])) w3 fa mf few root (zaw marks n):=⟨zaa,t4 _ _ (t3 _ _ zaa)⟩
  dsimp only [yan]
  change tIfS _ _ _ _ _ (upd (upd (upd (upd HE w1 (.tup [.ref fa,Vn few,Vn root])) mf (.tup ((zaw marks n).map Vn))) w2 (.tup [.ref mf])) w3 (.tup [.ref fa,Vn few,Vn root,.ref mf]))
  generalize upd (upd (upd (upd HE w1 (.tup [.ref fa,Vn few,Vn root])) mf (.tup ((zaw marks n).map Vn))) w2 (.tup [.ref mf])) w3 (.tup [.ref fa,Vn few,Vn root,.ref mf])=HF at sA hV ⊢
  have sAF:=sD'.trans sA
  have TF:=TA.same sAF
  have hPF:=hPA.same sAF
  have e8:=sAF _ _ e8
  have fx:n-(zaw marks n).length=marks.length:=by omega
  refine ⟨_,rfl,_,rfl,tb,fa,pa,la,w3,mf,p,m,t,b,few,root,n,zaw marks n,rfl,TF,hV,WF,?_⟩
  rw [fx]
  refine ⟨_,_,rfl,rfl,_,rfl,?_⟩
  refine ite2 (fun c=>?_) (fun _=>?_)
  · have c':(p^few)^marks.length≤512:=by
      have:=of_decide_eq_true c
      exact Int.ofNat_le.mp this
    refine ⟨_,rfl,_,rfl,tb,fa,pa,la,w3,mf,p,m,t,b,few,root,n,zaw marks n,rfl,TF,hV,WF,by rw [fx];omega,fun c1 HG sG eG=>?_⟩
    rw [fx,←eA2] at eG
    refine ⟨_,rfl,c1,du,A2.map fun n:Nat=>(n:Int),A2.map fun n:Nat=>(n:Int),rfl,rfl,by rw [castV];exact SqT.of eG,by rw [castV];exact SqT.of (sG _ _ e8),_,rfl,?_⟩
    refine ite2 (fun c=>absurd c no) (fun _=>?_)
    exact ⟨hPF.same sG,_,_,_,_,_,_,_,_,_,_,_,_,rfl⟩
  · refine ite2 (fun c=>absurd c (by decide)) (fun _=>?_)
    exact ⟨hPF,_,_,_,_,_,_,_,_,_,_,_,_,rfl⟩
end
end My
end
section
-- text: Z58
set_option Elab.async false
set_option linter.all false
set_option maxRecDepth 100000
set_option maxHeartbeats 4000000
namespace My
open PySem L2 Dg
theorem yfK {K:PySem.W.Frag} {H:Hp} {a:Addr} {ns:List Int} {E:XK} (hl:ns.length≤63) (hS:SqL K H a (ns.map V.int)):zcL K [.ref a] H (fun v _=>v = .bl true) E:=⟨a,ns,rfl,hS,fun _=>rfl⟩
noncomputable def DI (K:PySem.W.Frag) (f:Addr) (x:Str) (st:Stmt):Prop:=∃fd:FuncData,Fun K x x st f fd∧PySem.W.nsIn K mainGlobals x=some (some (.ref f))
theorem DI.mk {K:PySem.W.Frag} {x:Str} {st:Stmt} {f:Addr} {oc:Value} {od an:Option Addr} {osl:Array (Option Value)} {kV doc pm cdv ct:Value} (a:PySem.W.nsIn K mainGlobals x=some (some (.ref f))) (l:K.lookup f=some ⟨oc,od,.func (PySem.W.fnOf x x (ybL st) (ybr st) (yac st) .none kV doc pm an cdv ct),osl⟩) (c:PySem.W.codeIn K cdv x=true) (k:PySem.W.keepIn K (.ref f)=true):DI K f x st:=⟨_,ygb (st:=st) l c k,a⟩
theorem DI.has {P:Program} {w:World} {K:PySem.W.Frag} {mg:Str→Option Value} {base h:Heap} {f:Addr} {x:Str} {st:Stmt} {n:Nat} {ps:List Str} {sp:Sp} (X:K.In h) (G:h.Ns mainGlobals mg) (q:DI K f x st) (ok:∀fd,Fun K x x st f fd→FnOk P w K mg base CX0 n f fd ps sp) (b:∀(kV doc pm:Value) (an:Option Addr) (cdv ct:Value) (us:List Value),us.length=ps.length→bindArgs (PySem.W.fnOf x x (ybL st) (ybr st) (yac st) .none kV doc pm an cdv ct) ⟨us,[]⟩=pure (ps.zip us)):Has P w K mg base n x ps sp:=by
  obtain ⟨fd,F,a⟩:=q
  exact ⟨f,fd,ok fd F,F.binds b,F.2,PySem.W.mg_of X G a⟩
theorem zfK {P:List Value→Prop} (h:∀a0,P [a0]):∀us:List Value,us.length=1→P us | [a0],_=>h a0
theorem zb0 {P:List Value→Prop} (h:∀a0 a1,P [a0,a1]):∀us:List Value,us.length=2→P us | [a0,a1],_=>h a0 a1
theorem zdb {P:List Value→Prop} (h:∀a0 a1 a2,P [a0,a1,a2]):∀us:List Value,us.length=3→P us | [a0,a1,a2],_=>h a0 a1 a2
theorem all_mk {l:PySem.W.OpenLaw} {w:World} {K:PySem.W.Frag} {h:Heap} {mg:Str→Option Value} {fa:Addr} (X:K.In h) (G:h.Ns mainGlobals mg) (hfa:mg "law"=some (.ref fa))
    {f1:Addr} (q1:DI K f1 "shares" zcb) {f2:Addr} (q2:DI K f2 "facing_counts" yay) {f3:Addr} (q3:DI K f3 "_law_purse" zbp) {f4:Addr} (q4:DI K f4 "_law_pick" zbK) {f5:Addr} (q5:DI K f5 "_law_raised" ybg) {f6:Addr} (q6:DI K f6 "_law_digits" zbe) {f7:Addr} (q7:DI K f7 "_law_number" ybe) {f8:Addr} (q8:DI K f8 "_law_product" za6) {f9:Addr} (q9:DI K f9 "_law_is_good" zaK) {f10:Addr} (q10:DI K f10 "_law_field" za1) {f11:Addr} (q11:DI K f11 "_law_table" za0) {f12:Addr} (q12:DI K f12 "_law_plus" zbH) {f13:Addr} (q13:DI K f13 "_law_times" zbm) {f14:Addr} (q14:DI K f14 "_law_minus" zbt) {f15:Addr} (q15:DI K f15 "_law_power" ybt) {f16:Addr} (q16:DI K f16 "_law_round" ybk) {f17:Addr} (q17:DI K f17 "_law_ring" zbL) {f18:Addr} (q18:DI K f18 "_law_wheel" zat) {f19:Addr} (q19:DI K f19 "_law_letters" zaN) {f20:Addr} (q20:DI K f20 "_law_maker" ybp) {f21:Addr} (q21:DI K f21 "_law_added" ya3) {f22:Addr} (q22:DI K f22 "_law_words" yaO) {f23:Addr} (q23:DI K f23 "_law_many_words" yaI) {f24:Addr} (q24:DI K f24 "_law_small_wheel" zaG) {f25:Addr} (q25:DI K f25 "_law_counts" yaS) {f26:Addr} (q26:DI K f26 "_law_due" zaT) {f27:Addr} (q27:DI K f27 "law" yc2)
    (z1:PySem.W.nsIn K mainGlobals "range"=some none) (z2:PySem.W.nsIn K mainGlobals "len"=some none) (z3:PySem.W.nsIn K mainGlobals "abs"=some none) (z4:PySem.W.nsIn K mainGlobals "min"=some none) (z5:PySem.W.nsIn K mainGlobals "max"=some none) (z6:PySem.W.nsIn K mainGlobals "all"=some none) (z7:PySem.W.nsIn K mainGlobals "any"=some none) (z8:PySem.W.nsIn K mainGlobals "isinstance"=some none) (z9:PySem.W.nsIn K mainGlobals "int"=some none) (z10:PySem.W.nsIn K mainGlobals "bool"=some none) (z11:PySem.W.nsIn K mainGlobals "tuple"=some none) (z12:PySem.W.nsIn K mainGlobals "list"=some none) (z13:PySem.W.nsIn K mainGlobals "zip"=some none) (z14:PySem.W.nsIn K mainGlobals "enumerate"=some none) (z15:PySem.W.nsIn K mainGlobals "repr"=some none) (z16:PySem.W.nsIn K mainGlobals "dict"=some none) (z17:PySem.W.nsIn K mainGlobals "reversed"=some none) (z18:PySem.W.nsIn K mainGlobals "sorted"=some none) (z19:PySem.W.nsIn K mainGlobals "sum"=some none) (z20:PySem.W.nsIn K mainGlobals "set"=some none) (z21:PySem.W.nsIn K mainGlobals "str"=some none) :
    ∃fd:FuncData,(∀(s:Shared) (v:Value),BindsTo s fd ⟨[v],[]⟩ [("_law_script",v)])∧∀base:Heap,K.In base→base.Ns mainGlobals mg→FnOk l.prog w K mg base CX0 7 fa fd ["_law_script"] (zcL K):=by
  obtain ⟨_,⟨⟨oc,od,kV,dc,pm,an,cd,ct,sl,rfl,lL,cL⟩,kL⟩,aL⟩:=q27
  have e:=hfa.symm.trans (PySem.W.mg_of X G aL)
  cases e
  have F27:=ygb (st:=yc2) lL cL kL
  have B:Bl mg:=List.forall_mem_cons.mpr ⟨PySem.W.mg_none_of X G z1,List.forall_mem_cons.mpr ⟨PySem.W.mg_none_of X G z2,List.forall_mem_cons.mpr ⟨PySem.W.mg_none_of X G z3,List.forall_mem_cons.mpr ⟨PySem.W.mg_none_of X G z4,List.forall_mem_cons.mpr ⟨PySem.W.mg_none_of X G z5,List.forall_mem_cons.mpr ⟨PySem.W.mg_none_of X G z6,List.forall_mem_cons.mpr ⟨PySem.W.mg_none_of X G z7,List.forall_mem_cons.mpr ⟨PySem.W.mg_none_of X G z8,List.forall_mem_cons.mpr ⟨PySem.W.mg_none_of X G z9,List.forall_mem_cons.mpr ⟨PySem.W.mg_none_of X G z10,List.forall_mem_cons.mpr ⟨PySem.W.mg_none_of X G z11,List.forall_mem_cons.mpr ⟨PySem.W.mg_none_of X G z12,List.forall_mem_cons.mpr ⟨PySem.W.mg_none_of X G z13,List.forall_mem_cons.mpr ⟨PySem.W.mg_none_of X G z14,List.forall_mem_cons.mpr ⟨PySem.W.mg_none_of X G z15,List.forall_mem_cons.mpr ⟨PySem.W.mg_none_of X G z16,List.forall_mem_cons.mpr ⟨PySem.W.mg_none_of X G z17,List.forall_mem_cons.mpr ⟨PySem.W.mg_none_of X G z18,List.forall_mem_cons.mpr ⟨PySem.W.mg_none_of X G z19,List.forall_mem_cons.mpr ⟨PySem.W.mg_none_of X G z20,List.forall_mem_cons.mpr ⟨PySem.W.mg_none_of X G z21,(fun _ h=>nomatch h)⟩⟩⟩⟩⟩⟩⟩⟩⟩⟩⟩⟩⟩⟩⟩⟩⟩⟩⟩⟩⟩
  refine ⟨PySem.W.fnOf "law" "law" (ybL yc2) (ybr yc2) (yac yc2) .none kV dc pm an cd ct,fun s v=>.of_eq rfl,fun base _ _=>?_⟩
  have M:=fun {f x st n ps sp}=>@DI.has l.prog w K mg base h f x st n ps sp X G
  have h_shares:=M q1 (fun _ F=>ye7 B  F) (fun _ _ _ _ _ _=>zdb fun _ _ _=>rfl)
  have h_facing_counts:=M q2 (fun _ F=>zez B h_shares F) (fun _ _ _ _ _ _=>zb0 fun _ _=>rfl)
  have h__law_purse:=M q3 (fun _ F=>zfU B  F) (fun _ _ _ _ _ _=>zfK fun _=>rfl)
  have h__law_pick:=M q4 (fun _ F=>ygE B  F) (fun _ _ _ _ _ _=>zb0 fun _ _=>rfl)
  have h__law_raised:=M q5 (fun _ F=>zeC B  F) (fun _ _ _ _ _ _=>zb0 fun _ _=>rfl)
  have h__law_digits:=M q6 (fun _ F=>yff B  F) (fun _ _ _ _ _ _=>zb0 fun _ _=>rfl)
  have h__law_number:=M q7 (fun _ F=>yfx B  F) (fun _ _ _ _ _ _=>zb0 fun _ _=>rfl)
  have h__law_product:=M q8 (fun _ F=>zes B h__law_digits h__law_number F) (fun _ _ _ _ _ _=>zdb fun _ _ _=>rfl)
  have h__law_is_good:=M q9 (fun _ F=>ygi B h__law_raised h__law_product F) (fun _ _ _ _ _ _=>zfK fun _=>rfl)
  have h__law_field:=M q10 (fun _ F=>yfD B h__law_pick h__law_raised h__law_is_good F) (fun _ _ _ _ _ _=>zfK fun _=>rfl)
  have h__law_table:=M q11 (fun _ F=>yfI B h__law_raised h__law_product F) (fun _ _ _ _ _ _=>zfK fun _=>rfl)
  have h__law_plus:=M q12 (fun _ F=>yf0 B  F) (fun _ _ _ _ _ _=>zdb fun _ _ _=>rfl)
  have h__law_times:=M q13 (fun _ F=>zfm B  F) (fun _ _ _ _ _ _=>zdb fun _ _ _=>rfl)
  have h__law_minus:=M q14 (fun _ F=>yeS B h__law_plus h__law_times F) (fun _ _ _ _ _ _=>zdb fun _ _ _=>rfl)
  have h__law_power:=M q15 (fun _ F=>zfV B  F) (fun _ _ _ _ _ _=>zdb fun _ _ _=>rfl)
  have h__law_round:=M q16 (fun _ F=>yfq B h__law_times F) (fun _ _ _ _ _ _=>zb0 fun _ _=>rfl)
  have h__law_ring:=M q17 (fun _ F=>zfH B  F) (fun _ _ _ _ _ _=>zdb fun _ _ _=>rfl)
  have h__law_wheel:=M q18 (fun _ F=>zfx B h__law_pick h__law_field h__law_table h__law_raised h__law_round h__law_ring F) (fun _ _ _ _ _ _=>zb0 fun _ _=>rfl)
  have h__law_letters:=M q19 (fun _ F=>ydK B h__law_raised h__law_power F) (fun _ _ _ _ _ _=>zb0 fun _ _=>rfl)
  have h__law_maker:=M q20 (fun _ F=>zeQ B h__law_power h__law_minus h__law_times F) (fun _ _ _ _ _ _=>zb0 fun _ _=>rfl)
  have h__law_added:=M q21 (fun _ F=>ygo B h__law_plus F) (fun _ _ _ _ _ _=>zdb fun _ _ _=>rfl)
  have h__law_words:=M q22 (fun _ F=>yeM B h__law_round h__law_maker h__law_letters h__law_times h__law_added F) (fun _ _ _ _ _ _=>zb0 fun _ _=>rfl)
  have h__law_many_words:=M q23 (fun _ F=>zfv B h__law_round h__law_raised F) (fun _ _ _ _ _ _=>zb0 fun _ _=>rfl)
  have h__law_small_wheel:=M q24 (fun _ F=>zfb B h__law_wheel h__law_round h__law_raised h__law_pick h__law_ring F) (fun _ _ _ _ _ _=>zdb fun _ _ _=>rfl)
  have h__law_counts:=M q25 (fun _ F=>yep B h__law_round h__law_words F) (fun _ _ _ _ _ _=>zb0 fun _ _=>rfl)
  have h__law_due:=M q26 (fun _ F=>ygt B  F) (fun _ _ _ _ _ _=>zb0 fun _ _=>rfl)
  exact ygX (P:=l.prog) (w:=w) (base:=base) B h__law_purse h__law_pick h__law_small_wheel h__law_round h__law_raised h__law_counts h__law_due h_facing_counts h__law_many_words F27
theorem walk {l:PySem.W.OpenLaw} {q:Program} {loose:List Str} {XP:(Str→Option Value)→Heap→Prop} {YP:World→Heap→Prop} {d:DefRec} {K:Params→PySem.W.Frag} (hn:l.most=some 63) (hdf:d.params.defaults=[])
    (hY:∀(w:World) (h:Heap),YP w h→(K w.params).In h)
    (F:∀(w:World) (mg:Str→Option Value) (fa:Addr) (h:Heap),(K w.params).In h→h.Ns mainGlobals mg→mg d.name=some (.ref fa)→
      ∃fd:FuncData,(∀(s:Shared) (u:Value),BindsTo s fd ⟨[u],[]⟩ [("_law_script",u)])∧∀base:Heap,(K w.params).In base→base.Ns mainGlobals mg→FnOk l.prog w (K w.params) mg base CX0 7 fa fd ["_law_script"] (zcL (K w.params))) :
    PySem.W.WalkO q loose XP YP l.row.toRowW d [] (fun f vs=>PySem.call f vs) :=
  L2.walk_of (n:=63) (k:=7) (x:="_law_script") (CX:=fun _=>CX0) (sp:=fun w=>zcL (K w.params)) hn (by decide) hdf ⟨rfl,by decide,by decide,rfl⟩ hY F (fun _ _ a ns hl _ hS=>yfK hl hS) fun _ _ _ _ _ z=>z
end My
theorem PySem.W.Fast.tw3417613982808106903 : True := trivial
theorem PySem.W.Fast.tw10309567381534555905 : True := trivial
theorem PySem.W.Fast.tw8326703434107122137 : True := trivial
theorem PySem.W.Fast.tw1776006437806760364 : True := trivial
theorem PySem.W.Fast.tw4927136787733478861 : True := trivial
theorem PySem.W.Fast.tw14410409753832146941 : True := trivial
theorem PySem.W.Fast.tw3140267567250339750 : True := trivial
theorem PySem.W.Fast.tw17419264460554461831 : True := trivial
theorem PySem.W.Fast.tw17740531908711382516 : True := trivial
theorem PySem.W.Fast.tw5193866708084546687 : True := trivial
theorem PySem.W.Fast.tw13741713678118099397 : True := trivial
theorem PySem.W.Fast.tw15270947556894775790 : True := trivial
theorem PySem.W.Fast.tw2830595326181116130 : True := trivial
theorem PySem.W.Fast.tw15631791785764473014 : True := trivial
theorem PySem.W.Fast.tw9947339068507850270 : True := trivial
theorem PySem.W.Fast.tw6467015532773445173 : True := trivial
theorem PySem.W.Fast.tw755510972109374391 : True := trivial
theorem PySem.W.Fast.tw12286217649648431980 : True := trivial
theorem PySem.W.Fast.tw13623798961404919682 : True := trivial
theorem PySem.W.Fast.tw13724438643113664513 : True := trivial
theorem PySem.W.Fast.tw13864816338807989718 : True := trivial
theorem PySem.W.Fast.tw11297759870898283915 : True := trivial
theorem PySem.W.Fast.tw5042776603028524126 : True := trivial
theorem PySem.W.Fast.tw7755422538025902027 : True := trivial
theorem PySem.W.Fast.tw15063567628206232311 : True := trivial
theorem PySem.W.Fast.tw15578745670959863144 : True := trivial
theorem PySem.W.Fast.tw11950321519446967991 : True := trivial
theorem PySem.W.Fast.tw5581166558127075379 : True := trivial
theorem PySem.W.Fast.tw13462465622398286288 : True := trivial
theorem PySem.W.Fast.tw15944780217657819452 : True := trivial
theorem PySem.W.Fast.tw1077473615149273527 : True := trivial
theorem PySem.W.Fast.tw4640149210624501831 : True := trivial
theorem PySem.W.Fast.tw3902185370181005351 : True := trivial
theorem PySem.W.Fast.tw17272647657342324558 : True := trivial
theorem PySem.W.Fast.tw14643177682457615985 : True := trivial
theorem PySem.W.Fast.tw7160155799642537334 : True := trivial
theorem PySem.W.Fast.tw3029746171368743644 : True := trivial
theorem PySem.W.Fast.tw991739989519357011 : True := trivial
theorem PySem.W.Fast.tw885502648254915548 : True := trivial
theorem PySem.W.Fast.tw3348839023331610396 : True := trivial
theorem PySem.W.Fast.tw17285835629926439729 : True := trivial
theorem PySem.W.Fast.tw4016923036888922389 : True := trivial
theorem PySem.W.Fast.tw18432726675361058595 : True := trivial
theorem PySem.W.Fast.tw1998608079384138624 : True := trivial
theorem PySem.W.Fast.tw12038817826154709551 : True := trivial
theorem PySem.W.Fast.tw16011201106303991286 : True := trivial
theorem PySem.W.Fast.tw12008806092754395264 : True := trivial
theorem PySem.W.Fast.tw1127394913858077233 : True := trivial
theorem PySem.W.Fast.tw17428653570118892693 : True := trivial
theorem PySem.W.Fast.tw18288260819090979151 : True := trivial
theorem PySem.W.Fast.tw1757255145371973919 : True := trivial
theorem PySem.W.Fast.tw13453814550678458911 : True := trivial
theorem PySem.W.Fast.tw6928992612807384987 : True := trivial
theorem PySem.W.Fast.tw12507070231295954310 : True := trivial
theorem PySem.W.Fast.tw5107429110302420128 : True := trivial
theorem PySem.W.Fast.tw8810458872239600540 : True := trivial
theorem PySem.W.Fast.tw12662034587925528258 : True := trivial
theorem PySem.W.Fast.tw3574446634391969784 : True := trivial
theorem PySem.W.Fast.tw6861985788809930010 : True := trivial
theorem PySem.W.Fast.tw3137265317018442950 : True := trivial
theorem PySem.W.Fast.tw6270974546338502144 : True := trivial
theorem PySem.W.Fast.tw14007611178688562619 : True := trivial
theorem PySem.W.Fast.tw11926028786139738287 : True := trivial
theorem PySem.W.Fast.tw14074920022752410991 : True := trivial
theorem PySem.W.Fast.tw7436714426029184498 : True := trivial
theorem PySem.W.Fast.tw2763732604223258910 : True := trivial
theorem PySem.W.Fast.tw15227806068212785973 : True := trivial
theorem PySem.W.Fast.tw15844947760681540024 : True := trivial
theorem PySem.W.Fast.tw2084724945921748510 : True := trivial
theorem PySem.W.Fast.tw13492524304457316316 : True := trivial
theorem PySem.W.Fast.tw12006720229449182394 : True := trivial
theorem PySem.W.Fast.tw1175304798777515203 : True := trivial
theorem PySem.W.Fast.tw534649538943057518 : True := trivial
theorem PySem.W.Fast.tw3093506411963202539 : True := trivial
theorem PySem.W.Fast.tw6056622204930446577 : True := trivial
theorem PySem.W.Fast.tw12494612653897287314 : True := trivial
theorem PySem.W.Fast.tw13842768613180542048 : True := trivial
theorem PySem.W.Fast.tw3377646943143619305 : True := trivial
theorem PySem.W.Fast.tw11563509864579514181 : True := trivial
theorem PySem.W.Fast.tw10695845924730083025 : True := trivial
theorem PySem.W.Fast.tw7669214357752567929 : True := trivial
theorem PySem.W.Fast.tw14183960917061974162 : True := trivial
theorem PySem.W.Fast.tw12522384317943098739 : True := trivial
theorem PySem.W.Fast.tw6398563644680287845 : True := trivial
theorem PySem.W.Fast.tw17460019113439896459 : True := trivial
theorem PySem.W.Fast.tw13551252895124658490 : True := trivial
theorem PySem.W.Fast.tw4394750768001905776 : True := trivial
theorem PySem.W.Fast.tw16968366953757677835 : True := trivial
theorem PySem.W.Fast.tw6698020522798400405 : True := trivial
theorem PySem.W.Fast.tw17401038521765897648 : True := trivial
theorem PySem.W.Fast.tw5981324985468403199 : True := trivial
theorem PySem.W.Fast.tw5983813285269725614 : True := trivial
theorem PySem.W.Fast.tw17665483856911386504 : True := trivial
theorem PySem.W.Fast.tw6174740373661248446 : True := trivial
theorem PySem.W.Fast.tw6929666008824393371 : True := trivial
theorem PySem.W.Fast.tw15783126685023873061 : True := trivial
theorem PySem.W.Fast.tw9839074623902130065 : True := trivial
theorem PySem.W.Fast.tw1558437548033284399 : True := trivial
theorem PySem.W.Fast.tw17243085688505886826 : True := trivial
theorem PySem.W.Fast.tw9973264820881415155 : True := trivial
theorem PySem.W.Fast.tw110812828673057498 : True := trivial
theorem PySem.W.Fast.tw13795096740468436050 : True := trivial
theorem PySem.W.Fast.tw17294285057960791086 : True := trivial
theorem PySem.W.Fast.tw5108384552670676542 : True := trivial
theorem PySem.W.Fast.tw6839157208154563388 : True := trivial
theorem PySem.W.Fast.tw10402937466039793079 : True := trivial
theorem PySem.W.Fast.tw14481095668798249231 : True := trivial
theorem PySem.W.Fast.tw17108215246923233664 : True := trivial
theorem PySem.W.Fast.tw918708722440415664 : True := trivial
theorem PySem.W.Fast.tw2166322651097698401 : True := trivial
theorem PySem.W.Fast.tw15814079305778495702 : True := trivial
theorem PySem.W.Fast.tw10772706308073572559 : True := trivial
theorem PySem.W.Fast.tw542762407139547235 : True := trivial
theorem PySem.W.Fast.tw445831540419997326 : True := trivial
theorem PySem.W.Fast.tw13411262186543838221 : True := trivial
theorem PySem.W.Fast.tw9469397056341712083 : True := trivial
theorem PySem.W.Fast.tw2639678009801400930 : True := trivial
theorem PySem.W.Fast.tw2121539898201925568 : True := trivial
theorem PySem.W.Fast.tw13699780974093564619 : True := trivial
theorem PySem.W.Fast.tw11721667581823321864 : True := trivial
theorem PySem.W.Fast.tw1830888697670220268 : True := trivial
theorem PySem.W.Fast.tw14610239431057804486 : True := trivial
theorem PySem.W.Fast.tw4102401328984702141 : True := trivial
theorem PySem.W.Fast.tw9725363605504382864 : True := trivial
theorem PySem.W.Fast.tw1102854721973998842 : True := trivial
theorem PySem.W.Fast.tw2563230233231157482 : True := trivial
theorem PySem.W.Fast.tw3306075968566056837 : True := trivial
theorem PySem.W.Fast.tw17675885539616454587 : True := trivial
theorem PySem.W.Fast.tw1975186937510300864 : True := trivial
theorem PySem.W.Fast.tw8095778073887507264 : True := trivial
theorem PySem.W.Fast.tw10331868175604506758 : True := trivial
theorem PySem.W.Fast.tw8569991490400935937 : True := trivial
theorem PySem.W.Fast.tw1860967786865473431 : True := trivial
theorem PySem.W.Fast.tw9710366360982067388 : True := trivial
theorem PySem.W.Fast.tw9567876037803066858 : True := trivial
theorem PySem.W.Fast.tw15157963268967848994 : True := trivial
theorem PySem.W.Fast.tw12289417273242951949 : True := trivial
theorem PySem.W.Fast.tw2079986946512421142 : True := trivial
theorem PySem.W.Fast.tw8968953046167656089 : True := trivial
theorem PySem.W.Fast.tw10471828581834670359 : True := trivial
theorem PySem.W.Fast.tw5072724883124636870 : True := trivial
theorem PySem.W.Fast.tw12695933853852008287 : True := trivial
theorem PySem.W.Fast.tw1550831212936543306 : True := trivial
theorem PySem.W.Fast.tw8808146195585487686 : True := trivial
theorem PySem.W.Fast.tw11600039269097137761 : True := trivial
theorem PySem.W.Fast.tw17527020340715922866 : True := trivial
theorem PySem.W.Fast.tw10518028554394247168 : True := trivial
theorem PySem.W.Fast.tw10581173061485202158 : True := trivial
theorem PySem.W.Fast.tw11448916411344911142 : True := trivial
theorem PySem.W.Fast.tw7992403809233366390 : True := trivial
theorem PySem.W.Fast.tw695775058342638200 : True := trivial
theorem PySem.W.Fast.tw3363044114563538253 : True := trivial
theorem PySem.W.Fast.tw11024154301411469908 : True := trivial
theorem PySem.W.Fast.tw610573699171869296 : True := trivial
theorem PySem.W.Fast.tw7206963731518761123 : True := trivial
theorem PySem.W.Fast.tw4162607190639447027 : True := trivial
theorem PySem.W.Fast.tw796535295273768874 : True := trivial
theorem PySem.W.Fast.tw1550404187543091699 : True := trivial
open PySem PySem.W PyProof.Rows
set_option maxRecDepth 100000 in
set_option maxHeartbeats 0 in
theorem PySem.Challenge.cw_roundwords_k58_facing_counts_holds : PySem.Challenge.rw_roundwords_k58_facing_counts.Holds := by
  w_on;refine holds_law zgX fun said=>?_;k_head;(case hw=>w_witness2)
  k_fill
  refine My.walk (l:=PySem.Challenge.rw_roundwords_k58_facing_counts) rfl rfl (fun w h Y=>PySem.W.kIn_of Y) ?F
  case F =>
    intro w mg fa h KX G hmg
    apply My.all_mk KX G hmg
    all_goals first|(apply My.DI.mk <;> k_is)|k_is
#print axioms PySem.Challenge.cw_roundwords_k58_facing_counts_holds
end
